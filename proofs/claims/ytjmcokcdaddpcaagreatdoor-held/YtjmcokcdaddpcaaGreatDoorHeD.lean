import Derived.Test.YtjmcokcdaddpcaaGreatDoorHeC
import Derived.Deep.SlicePairs
import Derived.Test.YtjmcokcdaddpcaaGreatDoorGc
import Derived.Test.YtjmcokcdaddpcaaGreatDoorCards
import Derived.Test.YtjmcokcdaddpcaaGreatDoorTie
import Derived.WalkKit
import Derived.ProofKit
import Derived.OpenShut
import Derived.Carry
import Derived.Deep.DeepHandedRow
import Derived.Lib.LaidTab
set_option linter.unusedVariables false
set_option linter.unusedSimpArgs false
namespace Go.Proofs.YtjmcokcdaddpcaaGreatDoor
open Go.ChangeShapes Go.WideShapes Go.ChangeAt Go.RowKit
theorem he_cellsOp : Tryz.prog.cellsOf 59 = 2 := by kernel_rfl
theorem he_cellsInt : Tryz.prog.cellsOf 3 = 1 := by kernel_rfl
theorem ops_of {H : Type} {enc : TypeId × Value → H} {w : World} {base : Nat} {sp : Nat → Bool} {held : Bool} {fuel : Nat} {v : Value} {x : DataW H × List MemPlace} (h : DataW.trod enc Tryz.prog w base sp held fuel 57 [v] = some x) : ∃ zs, OpsIs w v zs := by
  rcases Go.Deep.open_slice_pairs Tryz.underlying57 Tryz.underlying59 he_cellsOp rfl rfl he_cellsInt he_cellsInt h with ⟨hcs, _⟩ | ⟨a, len, cap, m, n, V0, V1, D0, D1, P0, P1, hcs, _, hl, hm, hmm, _, hx⟩
  · simp at hcs
    exact ⟨[], .inl ⟨hcs, rfl⟩⟩
  · simp at hcs
    subst hcs
    have hlm : len ≤ m := by rw [hmm]; split <;> omega
    refine ⟨(List.range len).map (fun i => match V1 i with | .int _ z => z | _ => 0), .inr ⟨a, cap, by simp, by simp; omega, fun i z hi => ?_⟩⟩
    rw [List.getElem?_map, Option.map_eq_some_iff] at hi
    obtain ⟨i', hi', rfl⟩ := hi
    obtain ⟨hil, rfl⟩ : i < len ∧ i = i' := by
      rw [List.getElem?_eq_some_iff] at hi'
      obtain ⟨h1, h2⟩ := hi'
      simp at h1 h2
      exact ⟨h1, h2⟩
    obtain ⟨_, c1, _, t1⟩ := hx i (by omega)
    obtain ⟨z, e1, _, hwf⟩ := DataW.trod_int Tryz.underlying3 t1
    simp at e1
    rw [c1, e1]
    have h1 : (decide (IntKind.i64.min ≤ z) && decide (z ≤ IntKind.i64.max)) = true := hwf
    have e3 : IntKind.i64.min = -9223372036854775808 := rfl
    have e4 : IntKind.i64.max = 9223372036854775807 := rfl
    rw [e3, e4, Bool.and_eq_true, decide_eq_true_eq, decide_eq_true_eq] at h1
    exact ⟨rfl, h1⟩
theorem he_own : ownKnob Tryz.prog.godebug = none := by kernel_rfl
theorem he_laidOut : laidOutB Tryz.prog = true := by kernel_rfl
theorem he_Signs : Tryz.prog.globalNamed "dossier/graphs.signs" = some 0 := by kernel_rfl
theorem he_SignsType : (Tryz.prog.globals[0]?).map (·.type) = some 210 := by kernel_rfl
theorem he_cellsSigns : Tryz.prog.cellsOf 210 = 5 := by kernel_rfl
theorem he_cellsStr : Tryz.prog.cellsOf 9 = 1 := by kernel_rfl
/-- An array of strings that reads as a list holds it, cell for cell. -/
theorem he_cells_of_strs {H : Type} {enc : TypeId × Value → H} {P : Program} {w : World} {base : Nat} {sp : Nat → Bool} {held : Bool} {fuel : Nat} {t e : TypeId} {n : Nat} {cs : List Value} {bs : List (List UInt8)} {p : List MemPlace}
    (ht : P.underlying t = some (.array n e)) (he : P.underlying e = some .string) (hce : P.cellsOf e = 1) (hct : P.cellsOf t = n)
    (h : DataW.trod enc P w base sp held fuel t cs = some (.agg (bs.map fun b => .lit (.string b)), p)) : cs = bs.map strV := by
  obtain ⟨xs, m, rfl, hx, hlen, hn, hel⟩ := DataW.trod_array ht h
  have hxs : xs.map (·.1) = bs.map fun b => (DataW.lit (.string b) : DataW H) := by
    have := congrArg Prod.fst hx
    simpa using this.symm
  rw [hct] at hlen
  have hbl : bs.length = n := by
    have := congrArg List.length hxs
    simp at this
    omega
  apply List.ext_getElem?
  intro i
  by_cases hi : i < n
  · have e1 := hel i hi
    rw [hce, Nat.mul_one] at e1
    have hxi : xs[i]? = some (xs[i]'(by omega)) := List.getElem?_eq_getElem (by omega)
    rw [hxi] at e1
    obtain ⟨s, hc, hxe, _⟩ := DataW.trod_string he e1
    have h1 : cs[i]? = some (.string s) := by
      have := congrArg (·[0]?) hc
      simpa [List.getElem?_take, List.getElem?_drop] using this
    have h2 : (xs.map (·.1))[i]? = some (DataW.lit (.string s.data.toList) : DataW H) := by
      rw [List.getElem?_map, hxi, hxe]; rfl
    rw [hxs] at h2
    simp only [List.getElem?_map, Option.map_eq_some_iff, DataW.lit.injEq, Lit.string.injEq] at h2
    obtain ⟨b, hb, rfl⟩ := h2
    rw [h1, List.getElem?_map, hb]
    rfl
  · rw [List.getElem?_eq_none (by omega), List.getElem?_eq_none (by simp; omega)]
/-- What the row's list gives: the table of signs. -/
theorem he_signs_of {W : World} (h : laidMetH Tryz.prog Rows.heldRow.laid W) : SignsIn W := by
  have h : laidMet Tryz.prog Rows.heldRow.laid W := h
  obtain ⟨ps, ⟨g', t', cs, fuel, p, q, hg', ht', hvar, hd, _, _⟩, _⟩ := h
  obtain rfl := Option.some.inj (he_Signs.symm.trans hg')
  obtain rfl := Option.some.inj (he_SignsType.symm.trans ht')
  have hcs := he_cells_of_strs (bs := [[45, 62, 42], [45, 62, 60, 62], [42, 45, 62], [45, 62, 43], [45, 62, 37]]) Tryz.underlying210 Tryz.underlying9 he_cellsStr he_cellsSigns hd
  have hc : ∀ i, W.cell? ⟨0, i, none⟩ = cs[i]? := fun i => World.var?_cell he_Signs hvar i
  have hci : ∀ i : Nat, cs[i]? = ([[45, 62, 42], [45, 62, 60, 62], [42, 45, 62], [45, 62, 43], [45, 62, 37]].map strV)[i]? := fun i => by rw [← hcs, Array.getElem?_toList]
  have h0 := (hc 0).trans (hci 0)
  exact ⟨World.block_lt_of_cell? _ _ h0, h0, (hc 1).trans (hci 1), (hc 2).trans (hci 2), (hc 3).trans (hci 3), (hc 4).trans (hci 4)⟩
namespace held
set_option maxRecDepth 100000 in
theorem contract (H : Type) (enc : TypeId × Value → H) (W : World) (base : Nat) (args : Array Value) (ds gs : List (DataW H)) (before : List MemPlace)
    (hval : ∀ (j : Nat) t v, Tryz.f11.params[j]? = some t → args[j]? = some v → Value.okWide Tryz.prog W .any base t v)
    (hW : DataW.Whole enc Tryz.prog Tryz.f11.params.toList Rows.heldSpec.vars false W args.toList ds gs before) (hL : laidMetH Tryz.prog Rows.heldRow.laid W) :
    Calls Tryz.prog 11 args W fun e W' => ∃ v, e = .returned v ∧ Rows.heldSpec.post enc Tryz.prog Tryz.f11 false true false false W args v W' := by
  have hW' := hW
  obtain ⟨p, q, hA0, hV, rfl, hfz, hnd⟩ := hW
  have hA : DataW.TrodAll enc Tryz.prog W 0 (fun _ => true) true Tryz.f11.params.toList args.toList ds p := hA0
  rw [Tryz.params11] at hA hval
  obtain ⟨v0, vs0, d0, ds0, p0, q0, hargs, rfl, rfl, h0, r0⟩ := trodAll_cons hA
  obtain ⟨v1, vs1, d1, ds1, p1, q1, rfl, rfl, rfl, h1, r1⟩ := trodAll_cons r0
  obtain ⟨rfl, rfl, rfl⟩ := trodAll_nil r1
  obtain rfl : args = #[v0, v1] := by cases args; simp_all
  obtain ⟨rfl, rfl⟩ := trodVars_none hV
  obtain ⟨f, rfl, rfl, rfl⟩ := open_bool Tryz.underlying4 (hval 0 4 v0 rfl rfl) h0
  clear hA0
  simp only [List.append_nil, List.nil_append] at hW'
  have hlt : ∀ x ∈ p1, x.block < W.heap.size := fun x hx => by simpa using hW'.lt x (by simpa using hx)
  have hraw : ∃ zs, OpsIs W v1 zs := by
    obtain ⟨fuel, hf⟩ := h1
    obtain ⟨a0, len, cap, rfl⟩ := okWide_slice Tryz.underlying57 (hval 1 57 v1 rfl rfl)
    exact ops_of (by simpa [Value.cells] using hf)
  obtain ⟨zs, hraw⟩ := hraw
  refine (held_law W f v1 zs hraw (he_signs_of hL)).mono fun e W' ⟨he, hb⟩ => ?_
  subst he
  have harg : DataW.Trod enc Tryz.prog W' 0 (fun b => decide (b < W.heap.size)) true 57 v1 d1 p1 :=
    Below.trod he_laidOut (by kernel_rfl) (of_decide_eq_true (by kernel_rfl)) h1 hb hlt
  exact ⟨_, rfl, ⟨_, _, _, [], _, [], hW', trodAll_mk1 (shut_bool Tryz.underlying4 _), trodAll_cons_mk (shut_bool Tryz.underlying4 _) (trodAll_cons_mk harg trodAll_mk0), rfl, hb.frame _, fun h => by cases h⟩⟩
theorem laid_met (os : Os) : laidMet Tryz.prog Rows.heldRow.laid (({ World.holding Tryz.prog os ⟨#[], #[], []⟩ with heap := (World.holding Tryz.prog os ⟨#[], #[], []⟩).heap.modify 0 fun o => match o with | .cells _ t frozen => .cells #[.string ⟨#[45, 62, 42]⟩, .string ⟨#[45, 62, 60, 62]⟩, .string ⟨#[42, 45, 62]⟩, .string ⟨#[45, 62, 43]⟩, .string ⟨#[45, 62, 37]⟩] t frozen | o => o } : World).forCall (fun _ _ => 0) ⟨#[], #[.bool false, .slice none 0 0], []⟩).memory :=
  laidMet_of_run' 8 (by kernel_rfl) (by kernel_rfl)
theorem reads (os : Os) {H : Type} (enc : TypeId × Value → H) : ∃ places, DataW.whole enc Tryz.prog (({ World.holding Tryz.prog os ⟨#[], #[], []⟩ with heap := (World.holding Tryz.prog os ⟨#[], #[], []⟩).heap.modify 0 fun o => match o with | .cells _ t frozen => .cells #[.string ⟨#[45, 62, 42]⟩, .string ⟨#[45, 62, 60, 62]⟩, .string ⟨#[42, 45, 62]⟩, .string ⟨#[45, 62, 43]⟩, .string ⟨#[45, 62, 37]⟩] t frozen | o => o } : World).forCall (fun _ _ => 0) ⟨#[], #[.bool false, .slice none 0 0], []⟩).memory Tryz.f11.params.toList Rows.heldSpec.vars false #[Value.bool false, Value.slice none 0 0].toList 8 = some ([.lit (.bool false), .nil], [], places) :=
  ⟨[], by kernel_rfl⟩
set_option maxRecDepth 100000 in
theorem lifted (os : Os) (started : os.Started) (H : Type) (enc : TypeId × Value → H) (F : Stop.Interp) :
    ReturnsInHanded {} Tryz.checked os 11 .any ((OpenSpec.ofChange Rows.heldSpec).preRow enc Tryz.prog Tryz.f11 Rows.heldRow.domain false Rows.heldRow.laid) (((OpenSpec.ofChange Rows.heldSpec).at F).post enc Tryz.prog Tryz.f11 false true false false) := by
  obtain ⟨places, hx⟩ := reads os enc
  refine returnsInHanded_of_row (C := Tryz.checked) (s := OpenSpec.ofChange Rows.heldSpec) he_own started (by kernel_rfl) Tryz.func11
    (witness_row_at (enc := enc) (C := Tryz.checked) false ({ World.holding Tryz.prog os ⟨#[], #[], []⟩ with heap := (World.holding Tryz.prog os ⟨#[], #[], []⟩).heap.modify 0 fun o => match o with | .cells _ t frozen => .cells #[.string ⟨#[45, 62, 42]⟩, .string ⟨#[45, 62, 60, 62]⟩, .string ⟨#[42, 45, 62]⟩, .string ⟨#[45, 62, 43]⟩, .string ⟨#[45, 62, 37]⟩] t frozen | o => o } : World) #[.bool false, .slice none 0 0] rfl (by kernel_rfl) (by kernel_rfl) (by kernel_rfl)
      (OpenSpec.preRow_of_cond 8 hx (by kernel_rfl) (fun k hk => by cases hk) (by kernel_rfl) (laid_met os))) ?_
  intro W base args ds gs before hval hW _ _ _ hL _ _
  exact contract H enc W base args ds gs before hval hW hL
theorem said : Rows.HeldSaid :=
  OpenClaim.holds_of_cond 11 Tryz.f11 rfl rfl rfl rfl rfl rfl rfl ⟨rfl, rfl, rfl, rfl, rfl⟩ rfl rfl rfl rfl rfl (by kernel_rfl) Tryz.func11 (by kernel_rfl)
    (of_decide_eq_true (by kernel_rfl)) (by unfold Func.isWrapper; first | (rw [if_pos (by decide +kernel)]; kernel_rfl) | (rw [if_neg (by decide +kernel)]; exact ⟨rfl, rfl⟩))
    (fun os started H enc _ F => by rw [OpenClaim.pre_eq_preRow]; exact lifted os started H enc F)
theorem plain (f : FuncId) (fn : Func) (hf : Tryz.pinned.checked.prog.funcNamed "dossier/dossierkeep.Held" = some f) (hfn : Tryz.pinned.checked.prog.funcs[f]? = some fn) :
    false = Tryz.pinned.checked.prog.looks [] ∧ ∀ (j : Nat) t, fn.params[j]? = some t → Tryz.pinned.checked.prog.wantsStandIn t = false := by
  obtain rfl : f = 11 := Option.some.inj ((show Tryz.prog.funcNamed "dossier/dossierkeep.Held" = some 11 by kernel_rfl).symm.trans hf) |>.symm
  obtain rfl : fn = Tryz.f11 := (Option.some.inj (Tryz.func11.symm.trans hfn)).symm
  refine ⟨by kernel_rfl, fun j t ht => ?_⟩
  rw [Tryz.params11] at ht
  have hm : t ∈ [4, 57] := by simpa using Array.mem_of_getElem? ht
  have hall : ([4, 57].all fun u => !Tryz.prog.wantsStandIn u) = true := by kernel_rfl
  exact (show Tryz.prog.wantsStandIn t = false by simpa using List.all_eq_true.1 hall t hm)
end held
/-- The tied card of Held. -/
theorem held_card : Rows.HeldCardSaid :=
  tied_goes .later _ _ _ _ held.said (by kernel_rfl) held_row_tie rfl ⟨rfl, rfl⟩ (by kernel_rfl) rfl held.plain (by kernel_rfl)
#print axioms held_card
end Go.Proofs.YtjmcokcdaddpcaaGreatDoor
