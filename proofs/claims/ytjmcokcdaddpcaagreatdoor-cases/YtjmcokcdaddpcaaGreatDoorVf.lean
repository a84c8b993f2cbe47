import Derived.Test.YtjmcokcdaddpcaaGreatDoorVe
import Derived.Test.YtjmcokcdaddpcaaGreatDoorCards
import Derived.Test.YtjmcokcdaddpcaaGreatDoorTie
import Derived.WalkKit
import Derived.ProofKit
import Derived.OpenShut
import Derived.Carry
import Derived.Deep.DeepHandedRow
import Derived.Lib.LaidTab
set_option linter.unusedVariables false
set_option linter.unusedSimpArgs false
namespace Go.Proofs.YtjmcokcdaddpcaaGreatDoor
open Go.ChangeShapes Go.WideShapes Go.ChangeAt Go.RowKit
theorem ca_own : ownKnob Tryz.prog.godebug = none := by kernel_rfl
theorem ca_laidOut : laidOutB Tryz.prog = true := by kernel_rfl
theorem ca_Signs : Tryz.prog.globalNamed "dossier/graphs.signs" = some 0 := by kernel_rfl
theorem ca_SignsType : (Tryz.prog.globals[0]?).map (·.type) = some 210 := by kernel_rfl
theorem ca_cellsSigns : Tryz.prog.cellsOf 210 = 5 := by kernel_rfl
theorem ca_Pow : Tryz.prog.globalNamed "internal/strconv.uint64pow10" = some 2 := by kernel_rfl
theorem ca_PowType : (Tryz.prog.globals[2]?).map (·.type) = some 334 := by kernel_rfl
theorem ca_cellsPow : Tryz.prog.cellsOf 334 = 20 := by kernel_rfl
theorem ca_cellsU64 : Tryz.prog.cellsOf 301 = 1 := by kernel_rfl
theorem ca_Db : Tryz.prog.globalNamed "math/bits.deBruijn64tab" = some 4 := by kernel_rfl
/-- An array of strings that reads as a list holds it, cell for cell. -/
theorem ca_cells_of_strs {H : Type} {enc : TypeId × Value → H} {P : Program} {w : World} {base : Nat} {sp : Nat → Bool} {held : Bool} {fuel : Nat} {t e : TypeId} {n : Nat} {cs : List Value} {bs : List (List UInt8)} {p : List MemPlace}
    (ht : P.underlying t = some (.array n e)) (he : P.underlying e = some .string) (hce : P.cellsOf e = 1) (hct : P.cellsOf t = n)
    (h : DataW.trod enc P w base sp held fuel t cs = some (.agg (bs.map fun b => .lit (.string b)), p)) : cs = bs.map strV := by
  obtain ⟨xs, m, rfl, hx, hlen, hn, hel⟩ := DataW.trod_array ht h
  have hxs : xs.map (·.1) = bs.map fun b => (DataW.lit (.string b) : DataW H) := by
    have := congrArg Prod.fst hx
    simpa using this.symm
  rw [hct] at hlen
  have hbl : bs.length = n := by
    have := congrArg List.length hxs
    simp at this
    omega
  apply List.ext_getElem?
  intro i
  by_cases hi : i < n
  · have e1 := hel i hi
    rw [hce, Nat.mul_one] at e1
    have hxi : xs[i]? = some (xs[i]'(by omega)) := List.getElem?_eq_getElem (by omega)
    rw [hxi] at e1
    obtain ⟨s, hc, hxe, _⟩ := DataW.trod_string he e1
    have h1 : cs[i]? = some (.string s) := by
      have := congrArg (·[0]?) hc
      simpa [List.getElem?_take, List.getElem?_drop] using this
    have h2 : (xs.map (·.1))[i]? = some (DataW.lit (.string s.data.toList) : DataW H) := by
      rw [List.getElem?_map, hxi, hxe]; rfl
    rw [hxs] at h2
    simp only [List.getElem?_map, Option.map_eq_some_iff, DataW.lit.injEq, Lit.string.injEq] at h2
    obtain ⟨b, hb, rfl⟩ := h2
    rw [h1, List.getElem?_map, hb]
    rfl
  · rw [List.getElem?_eq_none (by omega), List.getElem?_eq_none (by simp; omega)]
/-- What the row's list gives: the table of signs, that of the powers, and five blocks. -/
theorem ca_laid {W : World} (h : laidMetH Tryz.prog Rows.casesRow.laid W) : SignsIn W ∧ TabP W ∧ 5 ≤ W.heap.size := by
  have h : laidMet Tryz.prog Rows.casesRow.laid W := h
  obtain ⟨ps, hl, _⟩ := h
  obtain ⟨g1, t1, c1, f1, p1, q1, hg1, ht1, hv1, hd1, hl, _⟩ := hl
  obtain ⟨g2, t2, c2, f2, p2, q2, hg2, ht2, hv2, hd2, hl, _⟩ := hl
  obtain ⟨g3, t3, c3, f3, p3, q3, hg3, ht3, hv3, hd3, hl, _⟩ := hl
  obtain ⟨g4, t4, c4, f4, p4, q4, hg4, ht4, hv4, hd4, _, _⟩ := hl
  obtain rfl := Option.some.inj (ca_Db.symm.trans hg2)
  obtain rfl := Option.some.inj (ca_Pow.symm.trans hg3)
  obtain rfl := Option.some.inj (ca_PowType.symm.trans ht3)
  obtain rfl := Option.some.inj (ca_Signs.symm.trans hg4)
  obtain rfl := Option.some.inj (ca_SignsType.symm.trans ht4)
  refine ⟨?_, ?_, ?_⟩
  · have hcs := ca_cells_of_strs (bs := [[45, 62, 42], [45, 62, 60, 62], [42, 45, 62], [45, 62, 43], [45, 62, 37]]) Tryz.underlying210 Tryz.underlying9 ca_cellsStr ca_cellsSigns hd4
    have hc : ∀ i, W.cell? ⟨0, i, none⟩ = c4[i]? := fun i => World.var?_cell ca_Signs hv4 i
    have hci : ∀ i : Nat, c4[i]? = ([[45, 62, 42], [45, 62, 60, 62], [42, 45, 62], [45, 62, 43], [45, 62, 37]].map strV)[i]? := fun i => by rw [← hcs, Array.getElem?_toList]
    have h0 := (hc 0).trans (hci 0)
    exact ⟨World.block_lt_of_cell? _ _ h0, h0, (hc 1).trans (hci 1), (hc 2).trans (hci 2), (hc 3).trans (hci 3), (hc 4).trans (hci 4)⟩
  · have hcs := Lib.cells_of_tab (k := .u64) (zs := Lib.pow10Tab) Tryz.underlying334 Tryz.underlying301 ca_cellsU64 ca_cellsPow hd3
    show Lib.TabIs Tryz.prog W "internal/strconv.uint64pow10" .u64 Lib.pow10Tab
    unfold Lib.TabIs
    rw [hv3, ← hcs]
  · have hg : (Tryz.prog.globalNamed "math/bits.deBruijn64tab").bind (fun g => W.heap[g]?) ≠ none := by
      intro e
      rw [World.var?] at hv2
      simp only [ca_Db, Option.bind_some, Option.bind_eq_bind] at e hv2
      simp [e] at hv2
    rw [ca_Db] at hg
    simp only [Option.bind_some] at hg
    have : 4 < W.heap.size := by
      rcases Nat.lt_or_ge 4 W.heap.size with h | h
      · exact h
      · exact absurd (Array.getElem?_eq_none h) hg
    omega
end Go.Proofs.YtjmcokcdaddpcaaGreatDoor
set_option linter.unusedVariables false
set_option linter.unusedSimpArgs false
namespace Go.Proofs.YtjmcokcdaddpcaaGreatDoor
open Go.ChangeShapes Go.WideShapes Go.ChangeAt Go.RowKit
set_option maxRecDepth 100000 in
set_option maxHeartbeats 6400000 in
theorem cases_law (w : World) (v : Value) (zs : List StD) (hv : StepsIs w v zs) (hs : SignsIn w) (ht : TabP w) (h5 : 5 ≤ w.heap.size) :
    Calls Tryz.prog 5 #[v] w fun x w' => x = .returned (.bool true) ∧ Below w.heap.size w w' := by
  have H : Hid (StepsIs w v zs ∧ SignsIn w ∧ TabP w ∧ 5 ≤ w.heap.size) := ⟨hv, hs, ht, h5⟩
  clear hv hs ht h5
  go_enter Tryz.func5, Tryz.ntmps5
  go_wp2_with fail
  have hb : Below w.heap.size w (w.alloc (.cells #[.int .i64 3, .int .i64 4, .int .i64 5, .int .i64 6, .int .i64 7, .int .i64 8, .int .i64 9] 3)) := (Below.refl _ _).alloc (Nat.le_refl _) _
  refine (plays_any _ v zs w.heap.size (H.out.1.below hb) (H.out.2.1.below hb) (H.out.2.2.1.same (fun x hx => hb.block x (by have := H.out.2.2.2; omega))) (Nat.le_trans H.out.2.2.2 hb.size) (fun k hk => ?_)).mono ?_
  · have e := heap_alloc_new w (.cells #[.int .i64 3, .int .i64 4, .int .i64 5, .int .i64 6, .int .i64 7, .int .i64 8, .int .i64 9] 3)
    rcases (by omega : k = 0 ∨ k = 1 ∨ k = 2 ∨ k = 3 ∨ k = 4 ∨ k = 5 ∨ k = 6) with rfl | rfl | rfl | rfl | rfl | rfl | rfl <;> (unfold World.cell?; rw [e]; rfl)
  · rintro x w2 ⟨rfl, b2⟩
    have HF : Hid (Below w.heap.size w w2) := hb.trans (b2.mono hb.size)
    clear b2 hb
    go_wp2_with fail
    go_ret
    exact ⟨rfl, HF.out⟩
end Go.Proofs.YtjmcokcdaddpcaaGreatDoor
