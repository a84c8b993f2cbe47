import Derived.Test.YtjmcokcdaddpcaaGreatDoorVc
import Derived.Test.YtjmcokcdaddpcaaGreatDoorRows
import Derived.Deep.Slices
import Derived.Lib.LaidTab
import Derived.ChangeArms
import Derived.SevenTiedAt
import Derived.Test.YtjmcokcdaddpcaaGreatDoorCards
import Derived.Test.YtjmcokcdaddpcaaGreatDoorTie
import Derived.WalkKit
import Derived.ProofKit
import Derived.OpenShut
import Derived.Carry
import Derived.Deep.DeepHandedRow
set_option linter.unusedVariables false
set_option linter.unusedSimpArgs false
namespace Go.Proofs.YtjmcokcdaddpcaaGreatDoor
open Go.ChangeShapes Go.WideShapes Go.RowKit
theorem ca_cellsStep : Tryz.prog.cellsOf 29 = 7 := by kernel_rfl
theorem ca_cellsInt : Tryz.prog.cellsOf 3 = 1 := by kernel_rfl
theorem ca_cellsStr : Tryz.prog.cellsOf 9 = 1 := by kernel_rfl
theorem ca_cellsBy : Tryz.prog.cellsOf 27 = 1 := by kernel_rfl
theorem bulk_pos {H : Type} (d : DataW H) : 1 ≤ Rows.uptoBulk d := by
  cases d with
  | lit l => cases l <;> simp [Rows.uptoBulk]
  | _ => simp [Rows.uptoBulk]
theorem bulk_len {H : Type} (ds : List (DataW H)) : ds.length ≤ Rows.uptoBulkAll ds := by
  induction ds with
  | nil => exact Nat.zero_le _
  | cons d r ih =>
    have := bulk_pos d
    simp only [Rows.uptoBulkAll, List.length_cons]
    omega
theorem int_in {z : Int} (h : (Lit.int .i64 z).wf = true) : -9223372036854775808 ≤ z ∧ z < 9223372036854775808 := by
  have h1 : (decide (IntKind.i64.min ≤ z) && decide (z ≤ IntKind.i64.max)) = true := h
  have e3 : IntKind.i64.min = -9223372036854775808 := rfl
  have e4 : IntKind.i64.max = 9223372036854775807 := rfl
  rw [e3, e4, Bool.and_eq_true, decide_eq_true_eq, decide_eq_true_eq] at h1
  omega
theorem seven {α : Type} {l : List α} (h : l.length = 7) : ∃ a b c d e f g, l = [a, b, c, d, e, f, g] := by
  match l, h with
  | [a, b, c, d, e, f, g], _ => exact ⟨a, b, c, d, e, f, g, rfl⟩
theorem strV_of (s : ByteArray) : Value.string s = strV s.data.toList := by
  unfold strV
  cases s
  simp
theorem steps_of {H : Type} {enc : TypeId × Value → H} {w : World} {base : Nat} {sp : Nat → Bool} {held : Bool} {fuel : Nat} {v : Value} {x : DataW H × List MemPlace} (h : DataW.trod enc Tryz.prog w base sp held fuel 35 [v] = some x) (hb : Rows.uptoBulk x.1 ≤ 1048576) : ∃ zs, StepsIs w v zs := by
  rcases Go.Deep.open_slice Tryz.underlying35 h with ⟨hcs, _⟩ | ⟨a, len, cap, m, n, D, Pl, hcs, _, hl, hm, hmm, hx0, hx⟩
  · simp at hcs
    exact ⟨[], .inl ⟨hcs, rfl⟩⟩
  · simp at hcs
    subst hcs
    have hlm : len ≤ m := by rw [hmm]; split <;> omega
    have hlen : len ≤ 1048576 := by
      rw [hx0] at hb
      simp only [Rows.uptoBulk] at hb
      have := bulk_len ((List.range len).map D)
      simp at this
      omega
    have each : ∀ i, i < len → ∃ z : StD, StAtP w a i z := by
      intro i hi
      obtain ⟨cs', h1, h2⟩ := hx i (by omega)
      rw [ca_cellsStep] at h1
      obtain ⟨_, hlen', hcell⟩ := World.cells?_some h1
      obtain ⟨xs, k, hk, hxy, _, hxl, hf⟩ := DataW.trod_struct Tryz.underlying29 h2
      obtain ⟨y0, y1, y2, y3, y4, y5, y6, rfl⟩ := seven (show xs.length = 7 from hxl)
      obtain ⟨v0, v1, v2, v3, v4, v5, v6, rfl⟩ := seven hlen'
      have g0 := hf 0 _ rfl
      have g1 := hf 1 _ rfl
      have g2 := hf 2 _ rfl
      have g3 := hf 3 _ rfl
      have g4 := hf 4 _ rfl
      simp [ca_cellsInt, ca_cellsStr, ca_cellsBy] at g0 g1 g2 g3 g4
      have g5 := hf 5 _ rfl
      have g6 := hf 6 _ rfl
      simp [ca_cellsInt, ca_cellsStr, ca_cellsBy] at g5 g6
      obtain ⟨z0, e0, _, _⟩ := DataW.trod_int Tryz.underlying3 g0
      obtain ⟨z1, e1, _, w1⟩ := DataW.trod_int Tryz.underlying3 g1
      obtain ⟨z2, e2, _, _⟩ := DataW.trod_string Tryz.underlying9 g2
      obtain ⟨z3, e3, _, _⟩ := DataW.trod_string Tryz.underlying9 g3
      obtain ⟨z5, e5, _, _⟩ := DataW.trod_int Tryz.underlying3 g5
      obtain ⟨z6, e6, _, _⟩ := DataW.trod_int Tryz.underlying3 g6
      obtain ⟨ba, bn, bc, e4⟩ : ∃ ba bn bc, v4 = .slice ba bn bc := by
        rcases DataW.trod_slice Tryz.underlying27 g4 with ⟨e, _⟩ | ⟨b4, n4, c4, _, _, _, _, e, _⟩
        · simp at e; exact ⟨_, _, _, e⟩
        · simp at e; exact ⟨_, _, _, e⟩
      simp at e0 e1 e2 e3 e5 e6
      subst e0 e1 e2 e3 e4 e5 e6
      have c0 := hcell 0 (by omega)
      have c1 := hcell 1 (by omega)
      have c2 := hcell 2 (by omega)
      have c3 := hcell 3 (by omega)
      have c4 := hcell 4 (by omega)
      have c5 := hcell 5 (by omega)
      have c6 := hcell 6 (by omega)
      rw [Go.Deep.add_add] at c0 c1 c2 c3 c4 c5 c6
      have hw := int_in w1
      refine ⟨⟨z0, z1, z2.data.toList, z3.data.toList, ba, bn, bc, z5, z6⟩, ⟨by simpa using c0, by simpa using c1, ?_, ?_, by simpa using c4, by simpa using c5, by simpa using c6⟩, hw.1, hw.2⟩
      · rw [← strV_of]; simpa using c2
      · rw [← strV_of]; simpa using c3
    have : Inhabited StD := ⟨⟨0, 0, [], [], none, 0, 0, 0, 0⟩⟩
    obtain ⟨q, hq⟩ := Go.Deep.choose_lt each
    refine ⟨(List.range len).map q, .inr ⟨a, cap, by simp, by simp; exact hlen, fun i z hi => ?_⟩⟩
    rw [List.getElem?_map, Option.map_eq_some_iff] at hi
    obtain ⟨i', hi', rfl⟩ := hi
    obtain ⟨hil, rfl⟩ : i < len ∧ i = i' := by
      rw [List.getElem?_eq_some_iff] at hi'
      obtain ⟨h1, h2⟩ := hi'
      simp at h1 h2
      exact ⟨h1, h2⟩
    exact hq i hil
end Go.Proofs.YtjmcokcdaddpcaaGreatDoor
namespace Go.Proofs.YtjmcokcdaddpcaaGreatDoor
/-- A tied card of a plain row whose call can start goroutines. -/
theorem tied_goes (Lk : Looks) {p : Pinned} {s : OpenSpec} {c : OpenClaim} (kinds : List LaidKind) (tests : Bool) (har : Bool × String) (lk : Bool)
    (hc : c.holds p s) (hw : c.wfByText s = true) (htie : c.laidByTextAt Lk p kinds tests)
    (hst : c.start = .entering) (hnb : c.noBlocks = false ∧ c.again = false) (hm : p.checked.prog.mainIs = some (har.1, har.2.toList)) (hn : (!har.1 && har.2.isEmpty && !lk) = false)
    (hl : ∀ f fn, p.checked.prog.funcNamed c.func = some f → p.checked.prog.funcs[f]? = some fn → lk = p.checked.prog.looks [] ∧ ∀ (j : Nat) t, fn.params[j]? = some t → p.checked.prog.wantsStandIn t = false)
    (hg : true = c.goesBy p.checked.prog) :
    Claim7.holds p (.plain s) { stood := { row := c, standIns := [], harness := har, looks := lk }, kinds := [], alts := [], goes := true, laidByText := true, laidKinds := kinds, laidTests := tests, laidLooks := Lk } := by
  have h6 : ∀ r : OpenClaim, Claim7.isSixth { stood := { row := r, standIns := [], harness := har, looks := lk }, kinds := [] } = false := fun r => by simpa [Claim7.isSixth] using hn
  refine ⟨Claim7.tied_new_at Lk kinds tests (Claim7.new_of_sixth hc har lk hst hnb hm (h6 c) hl) hw, fun D hD => (by cases hD), htie, (fun h => by cases h), hg⟩
end Go.Proofs.YtjmcokcdaddpcaaGreatDoor
set_option linter.unusedVariables false
set_option linter.unusedSimpArgs false
namespace Go.Proofs.YtjmcokcdaddpcaaGreatDoor
open Go.ChangeShapes Go.WideShapes Go.ChangeAt Go.RowKit
theorem ca_own : ownKnob Tryz.prog.godebug = none := by kernel_rfl
theorem ca_laidOut : laidOutB Tryz.prog = true := by kernel_rfl
theorem ca_Signs : Tryz.prog.globalNamed "dossier/graphs.signs" = some 0 := by kernel_rfl
theorem ca_SignsType : (Tryz.prog.globals[0]?).map (·.type) = some 210 := by kernel_rfl
theorem ca_cellsSigns : Tryz.prog.cellsOf 210 = 5 := by kernel_rfl
theorem ca_Pow : Tryz.prog.globalNamed "internal/strconv.uint64pow10" = some 2 := by kernel_rfl
theorem ca_PowType : (Tryz.prog.globals[2]?).map (·.type) = some 334 := by kernel_rfl
theorem ca_cellsPow : Tryz.prog.cellsOf 334 = 20 := by kernel_rfl
theorem ca_cellsU64 : Tryz.prog.cellsOf 301 = 1 := by kernel_rfl
theorem ca_Db : Tryz.prog.globalNamed "math/bits.deBruijn64tab" = some 4 := by kernel_rfl
/-- An array of strings that reads as a list holds it, cell for cell. -/
theorem ca_cells_of_strs {H : Type} {enc : TypeId × Value → H} {P : Program} {w : World} {base : Nat} {sp : Nat → Bool} {held : Bool} {fuel : Nat} {t e : TypeId} {n : Nat} {cs : List Value} {bs : List (List UInt8)} {p : List MemPlace}
    (ht : P.underlying t = some (.array n e)) (he : P.underlying e = some .string) (hce : P.cellsOf e = 1) (hct : P.cellsOf t = n)
    (h : DataW.trod enc P w base sp held fuel t cs = some (.agg (bs.map fun b => .lit (.string b)), p)) : cs = bs.map strV := by
  obtain ⟨xs, m, rfl, hx, hlen, hn, hel⟩ := DataW.trod_array ht h
  have hxs : xs.map (·.1) = bs.map fun b => (DataW.lit (.string b) : DataW H) := by
    have := congrArg Prod.fst hx
    simpa using this.symm
  rw [hct] at hlen
  have hbl : bs.length = n := by
    have := congrArg List.length hxs
    simp at this
    omega
  apply List.ext_getElem?
  intro i
  by_cases hi : i < n
  · have e1 := hel i hi
    rw [hce, Nat.mul_one] at e1
    have hxi : xs[i]? = some (xs[i]'(by omega)) := List.getElem?_eq_getElem (by omega)
    rw [hxi] at e1
    obtain ⟨s, hc, hxe, _⟩ := DataW.trod_string he e1
    have h1 : cs[i]? = some (.string s) := by
      have := congrArg (·[0]?) hc
      simpa [List.getElem?_take, List.getElem?_drop] using this
    have h2 : (xs.map (·.1))[i]? = some (DataW.lit (.string s.data.toList) : DataW H) := by
      rw [List.getElem?_map, hxi, hxe]; rfl
    rw [hxs] at h2
    simp only [List.getElem?_map, Option.map_eq_some_iff, DataW.lit.injEq, Lit.string.injEq] at h2
    obtain ⟨b, hb, rfl⟩ := h2
    rw [h1, List.getElem?_map, hb]
    rfl
  · rw [List.getElem?_eq_none (by omega), List.getElem?_eq_none (by simp; omega)]
/-- What the row's list gives: the table of signs, that of the powers, and five blocks. -/
theorem ca_laid {W : World} (h : laidMetH Tryz.prog Rows.casesUptoRow.laid W) : SignsIn W ∧ TabP W ∧ 5 ≤ W.heap.size := by
  have h : laidMet Tryz.prog Rows.casesUptoRow.laid W := h
  obtain ⟨ps, hl, _⟩ := h
  obtain ⟨g1, t1, c1, f1, p1, q1, hg1, ht1, hv1, hd1, hl, _⟩ := hl
  obtain ⟨g2, t2, c2, f2, p2, q2, hg2, ht2, hv2, hd2, hl, _⟩ := hl
  obtain ⟨g3, t3, c3, f3, p3, q3, hg3, ht3, hv3, hd3, hl, _⟩ := hl
  obtain ⟨g4, t4, c4, f4, p4, q4, hg4, ht4, hv4, hd4, _, _⟩ := hl
  obtain rfl := Option.some.inj (ca_Db.symm.trans hg2)
  obtain rfl := Option.some.inj (ca_Pow.symm.trans hg3)
  obtain rfl := Option.some.inj (ca_PowType.symm.trans ht3)
  obtain rfl := Option.some.inj (ca_Signs.symm.trans hg4)
  obtain rfl := Option.some.inj (ca_SignsType.symm.trans ht4)
  refine ⟨?_, ?_, ?_⟩
  · have hcs := ca_cells_of_strs (bs := [[45, 62, 42], [45, 62, 60, 62], [42, 45, 62], [45, 62, 43], [45, 62, 37]]) Tryz.underlying210 Tryz.underlying9 ca_cellsStr ca_cellsSigns hd4
    have hc : ∀ i, W.cell? ⟨0, i, none⟩ = c4[i]? := fun i => World.var?_cell ca_Signs hv4 i
    have hci : ∀ i : Nat, c4[i]? = ([[45, 62, 42], [45, 62, 60, 62], [42, 45, 62], [45, 62, 43], [45, 62, 37]].map strV)[i]? := fun i => by rw [← hcs, Array.getElem?_toList]
    have h0 := (hc 0).trans (hci 0)
    exact ⟨World.block_lt_of_cell? _ _ h0, h0, (hc 1).trans (hci 1), (hc 2).trans (hci 2), (hc 3).trans (hci 3), (hc 4).trans (hci 4)⟩
  · have hcs := Lib.cells_of_tab (k := .u64) (zs := Lib.pow10Tab) Tryz.underlying334 Tryz.underlying301 ca_cellsU64 ca_cellsPow hd3
    show Lib.TabIs Tryz.prog W "internal/strconv.uint64pow10" .u64 Lib.pow10Tab
    unfold Lib.TabIs
    rw [hv3, ← hcs]
  · have hg : (Tryz.prog.globalNamed "math/bits.deBruijn64tab").bind (fun g => W.heap[g]?) ≠ none := by
      intro e
      rw [World.var?] at hv2
      simp only [ca_Db, Option.bind_some, Option.bind_eq_bind] at e hv2
      simp [e] at hv2
    rw [ca_Db] at hg
    simp only [Option.bind_some] at hg
    have : 4 < W.heap.size := by
      rcases Nat.lt_or_ge 4 W.heap.size with h | h
      · exact h
      · exact absurd (Array.getElem?_eq_none h) hg
    omega
end Go.Proofs.YtjmcokcdaddpcaaGreatDoor
