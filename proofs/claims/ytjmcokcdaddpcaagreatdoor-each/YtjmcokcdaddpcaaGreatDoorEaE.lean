import Derived.Test.YtjmcokcdaddpcaaGreatDoorEaD0
import Derived.Test.YtjmcokcdaddpcaaGreatDoorEaD1
import Derived.Test.YtjmcokcdaddpcaaGreatDoorEaD2
import Derived.Test.YtjmcokcdaddpcaaGreatDoorEaD3
import Derived.Test.YtjmcokcdaddpcaaGreatDoorEaD4
import Derived.Test.YtjmcokcdaddpcaaGreatDoorGc
import Derived.Test.YtjmcokcdaddpcaaGreatDoorCards
import Derived.Test.YtjmcokcdaddpcaaGreatDoorTie
import Derived.WalkKit
import Derived.ProofKit
import Derived.OpenShut
import Derived.Carry
import Derived.Deep.DeepHandedRow
import Derived.Lib.LaidTab
set_option linter.unusedVariables false
set_option linter.unusedSimpArgs false
namespace Go.Proofs.YtjmcokcdaddpcaaGreatDoor
open Go.ChangeShapes Go.WideShapes Go.ChangeAt Go.RowKit
theorem each_law (w : World) (sg st : Int) (h0 : -9223372036854775808 ≤ sg) (h1 : sg ≤ 9223372036854775807) (h2 : -9223372036854775808 ≤ st) (h3 : st ≤ 9223372036854775807) (hS : SignsIn w) :
    Calls Tryz.prog 10 #[.int .i64 sg, .int .i64 st] w fun x w' => x = .returned (.bool true) ∧ Below w.heap.size w w' := by
  have a : 0 ≤ pickN sg 5 := Int.emod_nonneg _ (by decide)
  have b : pickN sg 5 < 5 := Int.emod_lt_of_pos _ (by decide)
  have c : pickN sg 5 = 0 ∨ pickN sg 5 = 1 ∨ pickN sg 5 = 2 ∨ pickN sg 5 = 3 ∨ pickN sg 5 = 4 := by omega
  rcases c with c | c | c | c | c
  · exact each_0 w sg st h0 h1 h2 h3 hS c
  · exact each_1 w sg st h0 h1 h2 h3 hS c
  · exact each_2 w sg st h0 h1 h2 h3 hS c
  · exact each_3 w sg st h0 h1 h2 h3 hS c
  · exact each_4 w sg st h0 h1 h2 h3 hS c
theorem ea_i64 {n : Int} (h : (Lit.int .i64 n).wf = true) : -9223372036854775808 ≤ n ∧ n ≤ 9223372036854775807 := by
  have h1 : (decide (IntKind.i64.min ≤ n) && decide (n ≤ IntKind.i64.max)) = true := h
  have e1 : IntKind.i64.min = -9223372036854775808 := rfl
  have e2 : IntKind.i64.max = 9223372036854775807 := rfl
  rw [e1, e2, Bool.and_eq_true, decide_eq_true_eq, decide_eq_true_eq] at h1
  exact h1
theorem ea_own : ownKnob Tryz.prog.godebug = none := by kernel_rfl
theorem ea_laidOut : laidOutB Tryz.prog = true := by kernel_rfl
theorem ea_Signs : Tryz.prog.globalNamed "dossier/graphs.signs" = some 0 := by kernel_rfl
theorem ea_SignsType : (Tryz.prog.globals[0]?).map (·.type) = some 210 := by kernel_rfl
theorem ea_cellsSigns : Tryz.prog.cellsOf 210 = 5 := by kernel_rfl
theorem ea_cellsStr : Tryz.prog.cellsOf 9 = 1 := by kernel_rfl
/-- An array of strings that reads as a list holds it, cell for cell. -/
theorem ea_cells_of_strs {H : Type} {enc : TypeId × Value → H} {P : Program} {w : World} {base : Nat} {sp : Nat → Bool} {held : Bool} {fuel : Nat} {t e : TypeId} {n : Nat} {cs : List Value} {bs : List (List UInt8)} {p : List MemPlace}
    (ht : P.underlying t = some (.array n e)) (he : P.underlying e = some .string) (hce : P.cellsOf e = 1) (hct : P.cellsOf t = n)
    (h : DataW.trod enc P w base sp held fuel t cs = some (.agg (bs.map fun b => .lit (.string b)), p)) : cs = bs.map strV := by
  obtain ⟨xs, m, rfl, hx, hlen, hn, hel⟩ := DataW.trod_array ht h
  have hxs : xs.map (·.1) = bs.map fun b => (DataW.lit (.string b) : DataW H) := by
    have := congrArg Prod.fst hx
    simpa using this.symm
  rw [hct] at hlen
  have hbl : bs.length = n := by
    have := congrArg List.length hxs
    simp at this
    omega
  apply List.ext_getElem?
  intro i
  by_cases hi : i < n
  · have e1 := hel i hi
    rw [hce, Nat.mul_one] at e1
    have hxi : xs[i]? = some (xs[i]'(by omega)) := List.getElem?_eq_getElem (by omega)
    rw [hxi] at e1
    obtain ⟨s, hc, hxe, _⟩ := DataW.trod_string he e1
    have h1 : cs[i]? = some (.string s) := by
      have := congrArg (·[0]?) hc
      simpa [List.getElem?_take, List.getElem?_drop] using this
    have h2 : (xs.map (·.1))[i]? = some (DataW.lit (.string s.data.toList) : DataW H) := by
      rw [List.getElem?_map, hxi, hxe]; rfl
    rw [hxs] at h2
    simp only [List.getElem?_map, Option.map_eq_some_iff, DataW.lit.injEq, Lit.string.injEq] at h2
    obtain ⟨b, hb, rfl⟩ := h2
    rw [h1, List.getElem?_map, hb]
    rfl
  · rw [List.getElem?_eq_none (by omega), List.getElem?_eq_none (by simp; omega)]
/-- What the row's list gives: the table of signs. -/
theorem ea_signs_of {W : World} (h : laidMetH Tryz.prog Rows.eachRow.laid W) : SignsIn W := by
  have h : laidMet Tryz.prog Rows.eachRow.laid W := h
  obtain ⟨ps, ⟨g', t', cs, fuel, p, q, hg', ht', hvar, hd, _, _⟩, _⟩ := h
  obtain rfl := Option.some.inj (ea_Signs.symm.trans hg')
  obtain rfl := Option.some.inj (ea_SignsType.symm.trans ht')
  have hcs := ea_cells_of_strs (bs := [[45, 62, 42], [45, 62, 60, 62], [42, 45, 62], [45, 62, 43], [45, 62, 37]]) Tryz.underlying210 Tryz.underlying9 ea_cellsStr ea_cellsSigns hd
  have hc : ∀ i, W.cell? ⟨0, i, none⟩ = cs[i]? := fun i => World.var?_cell ea_Signs hvar i
  have hci : ∀ i : Nat, cs[i]? = ([[45, 62, 42], [45, 62, 60, 62], [42, 45, 62], [45, 62, 43], [45, 62, 37]].map strV)[i]? := fun i => by rw [← hcs, Array.getElem?_toList]
  have h0 := (hc 0).trans (hci 0)
  exact ⟨World.block_lt_of_cell? _ _ h0, h0, (hc 1).trans (hci 1), (hc 2).trans (hci 2), (hc 3).trans (hci 3), (hc 4).trans (hci 4)⟩
namespace each
set_option maxRecDepth 100000 in
theorem contract (H : Type) (enc : TypeId × Value → H) (W : World) (base : Nat) (args : Array Value) (ds gs : List (DataW H)) (before : List MemPlace)
    (hval : ∀ (j : Nat) t v, Tryz.f10.params[j]? = some t → args[j]? = some v → Value.okWide Tryz.prog W .any base t v)
    (hW : DataW.Whole enc Tryz.prog Tryz.f10.params.toList Rows.eachSpec.vars false W args.toList ds gs before) (hL : laidMetH Tryz.prog Rows.eachRow.laid W) :
    Calls Tryz.prog 10 args W fun e W' => ∃ v, e = .returned v ∧ Rows.eachSpec.post enc Tryz.prog Tryz.f10 false true false false W args v W' := by
  have hW' := hW
  obtain ⟨p, q, hA0, hV, rfl, hfz, hnd⟩ := hW
  have hA : DataW.TrodAll enc Tryz.prog W 0 (fun _ => true) true Tryz.f10.params.toList args.toList ds p := hA0
  rw [Tryz.params10] at hA hval
  obtain ⟨v0, vs0, d0, ds0, p0, q0, hargs, rfl, rfl, h0, r0⟩ := trodAll_cons hA
  obtain ⟨v1, vs1, d1, ds1, p1, q1, rfl, rfl, rfl, h1, r1⟩ := trodAll_cons r0
  obtain ⟨rfl, rfl, rfl⟩ := trodAll_nil r1
  obtain rfl : args = #[v0, v1] := by cases args; simp_all
  obtain ⟨rfl, rfl⟩ := trodVars_none hV
  obtain ⟨sg, rfl, rfl, rfl, w0⟩ := open_int Tryz.underlying3 (hval 0 3 v0 rfl rfl) h0
  obtain ⟨st, rfl, rfl, rfl, w1⟩ := open_int Tryz.underlying3 (hval 1 3 v1 rfl rfl) h1
  clear hA0
  simp only [List.append_nil] at hW'
  refine (each_law W sg st (ea_i64 w0).1 (ea_i64 w0).2 (ea_i64 w1).1 (ea_i64 w1).2 (ea_signs_of hL)).mono fun e W' ⟨he, hb⟩ => ?_
  subst he
  exact ⟨_, rfl, ⟨_, _, _, [], _, [], hW', trodAll_mk1 (shut_bool Tryz.underlying4 _), trodAll_cons_mk (shut_int Tryz.underlying3 w0) (trodAll_cons_mk (shut_int Tryz.underlying3 w1) trodAll_mk0), rfl, hb.frame _, fun h => by cases h⟩⟩
theorem laid_met (os : Os) : laidMet Tryz.prog Rows.eachRow.laid (({ World.holding Tryz.prog os ⟨#[], #[], []⟩ with heap := (World.holding Tryz.prog os ⟨#[], #[], []⟩).heap.modify 0 fun o => match o with | .cells _ t frozen => .cells #[.string ⟨#[45, 62, 42]⟩, .string ⟨#[45, 62, 60, 62]⟩, .string ⟨#[42, 45, 62]⟩, .string ⟨#[45, 62, 43]⟩, .string ⟨#[45, 62, 37]⟩] t frozen | o => o } : World).forCall (fun _ _ => 0) ⟨#[], #[.int .i64 0, .int .i64 0], []⟩).memory :=
  laidMet_of_run' 8 (by kernel_rfl) (by kernel_rfl)
theorem reads (os : Os) {H : Type} (enc : TypeId × Value → H) : ∃ places, DataW.whole enc Tryz.prog (({ World.holding Tryz.prog os ⟨#[], #[], []⟩ with heap := (World.holding Tryz.prog os ⟨#[], #[], []⟩).heap.modify 0 fun o => match o with | .cells _ t frozen => .cells #[.string ⟨#[45, 62, 42]⟩, .string ⟨#[45, 62, 60, 62]⟩, .string ⟨#[42, 45, 62]⟩, .string ⟨#[45, 62, 43]⟩, .string ⟨#[45, 62, 37]⟩] t frozen | o => o } : World).forCall (fun _ _ => 0) ⟨#[], #[.int .i64 0, .int .i64 0], []⟩).memory Tryz.f10.params.toList Rows.eachSpec.vars false #[Value.int .i64 0, Value.int .i64 0].toList 8 = some ([.lit (.int .i64 0), .lit (.int .i64 0)], [], places) :=
  ⟨[], by kernel_rfl⟩
set_option maxRecDepth 100000 in
theorem lifted (os : Os) (started : os.Started) (H : Type) (enc : TypeId × Value → H) (F : Stop.Interp) :
    ReturnsInHanded {} Tryz.checked os 10 .any ((OpenSpec.ofChange Rows.eachSpec).preRow enc Tryz.prog Tryz.f10 Rows.eachRow.domain false Rows.eachRow.laid) (((OpenSpec.ofChange Rows.eachSpec).at F).post enc Tryz.prog Tryz.f10 false true false false) := by
  obtain ⟨places, hx⟩ := reads os enc
  refine returnsInHanded_of_row (C := Tryz.checked) (s := OpenSpec.ofChange Rows.eachSpec) ea_own started (by kernel_rfl) Tryz.func10
    (witness_row_at (enc := enc) (C := Tryz.checked) false ({ World.holding Tryz.prog os ⟨#[], #[], []⟩ with heap := (World.holding Tryz.prog os ⟨#[], #[], []⟩).heap.modify 0 fun o => match o with | .cells _ t frozen => .cells #[.string ⟨#[45, 62, 42]⟩, .string ⟨#[45, 62, 60, 62]⟩, .string ⟨#[42, 45, 62]⟩, .string ⟨#[45, 62, 43]⟩, .string ⟨#[45, 62, 37]⟩] t frozen | o => o } : World) #[.int .i64 0, .int .i64 0] rfl (by kernel_rfl) (by kernel_rfl) (by kernel_rfl)
      (OpenSpec.preRow_of_cond 8 hx (by kernel_rfl) (fun k hk => by cases hk) (by kernel_rfl) (laid_met os))) ?_
  intro W base args ds gs before hval hW _ _ _ hL _ _
  exact contract H enc W base args ds gs before hval hW hL
theorem said : Rows.EachSaid :=
  OpenClaim.holds_of_cond 10 Tryz.f10 rfl rfl rfl rfl rfl rfl rfl ⟨rfl, rfl, rfl, rfl, rfl⟩ rfl rfl rfl rfl rfl (by kernel_rfl) Tryz.func10 (by kernel_rfl)
    (of_decide_eq_true (by kernel_rfl)) (by unfold Func.isWrapper; first | (rw [if_pos (by decide +kernel)]; kernel_rfl) | (rw [if_neg (by decide +kernel)]; exact ⟨rfl, rfl⟩))
    (fun os started H enc _ F => by rw [OpenClaim.pre_eq_preRow]; exact lifted os started H enc F)
theorem plain (f : FuncId) (fn : Func) (hf : Tryz.pinned.checked.prog.funcNamed "dossier/dossierkeep.Each" = some f) (hfn : Tryz.pinned.checked.prog.funcs[f]? = some fn) :
    false = Tryz.pinned.checked.prog.looks [] ∧ ∀ (j : Nat) t, fn.params[j]? = some t → Tryz.pinned.checked.prog.wantsStandIn t = false := by
  obtain rfl : f = 10 := Option.some.inj ((show Tryz.prog.funcNamed "dossier/dossierkeep.Each" = some 10 by kernel_rfl).symm.trans hf) |>.symm
  obtain rfl : fn = Tryz.f10 := (Option.some.inj (Tryz.func10.symm.trans hfn)).symm
  refine ⟨by kernel_rfl, fun j t ht => ?_⟩
  rw [Tryz.params10] at ht
  have hm : t ∈ [3, 3] := by simpa using Array.mem_of_getElem? ht
  have hall : ([3, 3].all fun u => !Tryz.prog.wantsStandIn u) = true := by kernel_rfl
  exact (show Tryz.prog.wantsStandIn t = false by simpa using List.all_eq_true.1 hall t hm)
end each
/-- The tied card of Each. -/
theorem each_card : Rows.EachCardSaid :=
  tied_goes .later _ _ _ _ each.said (by kernel_rfl) each_row_tie rfl ⟨rfl, rfl⟩ (by kernel_rfl) rfl each.plain (by kernel_rfl)
#print axioms each_card
end Go.Proofs.YtjmcokcdaddpcaaGreatDoor
