import Derived.Test.YtjmcokcdaddpcaaGreatDoorHsF
import Derived.Test.YtjmcokcdaddpcaaGreatDoorGc
import Derived.Test.YtjmcokcdaddpcaaGreatDoorCards
import Derived.Test.YtjmcokcdaddpcaaGreatDoorTie
import Derived.WalkKit
import Derived.ProofKit
import Derived.OpenShut
import Derived.Carry
import Derived.Deep.DeepHandedRow
import Derived.Lib.LaidTab
set_option linter.unusedVariables false
set_option linter.unusedSimpArgs false
namespace Go.Proofs.YtjmcokcdaddpcaaGreatDoor.hashes
open Go.ChangeShapes Go.WideShapes Go.ChangeAt Go.RowKit
theorem own : ownKnob Tryz.prog.godebug = none := by kernel_rfl
theorem laidOut : laidOutB Tryz.prog = true := by kernel_rfl
theorem cellsSl : Tryz.prog.cellsOf 27 = 1 := by kernel_rfl
theorem cellsU8 : Tryz.prog.cellsOf 5 = 1 := by kernel_rfl
theorem bytesU8 : Tryz.prog.bytesOf 5 = 1 := by kernel_rfl
/-- The byte in a datum that is one. -/
def byteOf {H : Type} (y : DataW H × List MemPlace) : UInt8 := match y.1 with
  | .lit (.int _ n) => UInt8.ofNat n.toNat
  | _ => 0
theorem mem_all {H : Type} {P : Program} {e : TypeId} {d : DataW H} : ∀ {l : List (DataW H)}, d ∈ l → ∀ x ∈ d.weights P e, x ∈ DataW.weightsAll P e l
  | y :: l, h, x, hx => by
    rw [DataW.weightsAll]
    rcases List.mem_cons.1 h with rfl | h
    · exact List.mem_append_left _ hx
    · exact List.mem_append_right _ (mem_all h x hx)
theorem bytes_of {H : Type} {enc : TypeId × Value → H} {w : World} {base : Nat} {sp : Nat → Bool} {held : Bool} {fuel : Nat} {bv : Value} {x : DataW H × List MemPlace} (h : DataW.trod enc Tryz.prog w base sp held fuel 27 [bv] = some x)
    (hz : ∀ y ∈ x.1.weights Tryz.prog 27, y ≤ reachBytes) : ∃ bs, BytesIs w bv bs ∧ bs.length ≤ 140737488351232 := by
  rcases DataW.trod_slice Tryz.underlying27 h with ⟨hcs, _⟩ | ⟨a, len, cap, elems, rest, n, _, hcs, rfl, hb, hl, hm, hlen, hel, hsp, hns⟩
  · simp at hcs
    exact ⟨[], .inl ⟨hcs, rfl⟩, by decide⟩
  · simp at hcs
    subst hcs
    have hw : elems.length + rest.length ≤ reachBytes := by
      have := hz ((elems.length + rest.length) * Tryz.prog.bytesOf 5) (by
        rw [DataW.weights, Tryz.underlying27]
        simp)
      rw [bytesU8, Nat.mul_one] at this
      exact this
    unfold reachBytes at hw
    refine ⟨elems.map byteOf, .inr ⟨a, cap, by simp [hlen], by simp [hlen]; exact hl, hm, fun i c hi => ?_⟩, by simp; omega⟩
    rw [List.getElem?_map, Option.map_eq_some_iff] at hi
    obtain ⟨y, hy, rfl⟩ := hi
    have hil : i < len := by rw [← hlen]; exact (List.getElem?_eq_some_iff.1 hy).1
    have e1 := hel i hil
    rw [hy, cellsU8, Nat.mul_one, Option.bind_eq_some_iff] at e1
    obtain ⟨cs', hcs, hy'⟩ := e1
    obtain ⟨m, rfl, rfl, hwf⟩ := DataW.trod_int Tryz.underlying5 hy'
    rw [cell_of_cells?_one hcs]
    have hr : 0 ≤ m ∧ m < 256 := by
      have h1 : (decide (IntKind.u8.min ≤ m) && decide (m ≤ IntKind.u8.max)) = true := hwf
      have e1 : IntKind.u8.min = 0 := rfl
      have e2 : IntKind.u8.max = 255 := rfl
      rw [e1, e2, Bool.and_eq_true, decide_eq_true_eq, decide_eq_true_eq] at h1
      omega
    show some (Value.int .u8 m) = some (.int .u8 ((UInt8.ofNat m.toNat).toNat : Int))
    rw [UInt8.toNat_ofNat']
    congr 2
    omega
theorem list_of {H : Type} {enc : TypeId × Value → H} {w : World} {base : Nat} {sp : Nat → Bool} {held : Bool} {fuel : Nat} {v : Value} {x : DataW H × List MemPlace} (h : DataW.trod enc Tryz.prog w base sp held fuel 31 [v] = some x)
    (hz : ∀ y ∈ x.1.weights Tryz.prog 31, y ≤ reachBytes) : ∃ bss, ListIs w v bss := by
  rcases DataW.trod_slice Tryz.underlying31 h with ⟨hcs, _⟩ | ⟨a, len, cap, elems, rest, n, _, hcs, rfl, hb, hl, hm, hlen, hel, hsp, hns⟩
  · simp at hcs
    exact ⟨[], .inl ⟨hcs, rfl⟩⟩
  · simp at hcs
    subst hcs
    have each : ∀ i, i < len → ∃ bv bs, w.cell? (a.add i) = some bv ∧ BytesIs w bv bs ∧ bs.length ≤ 140737488351232 := by
      intro i hi
      have e1 := hel i hi
      have hy : elems[i]? = some (elems[i]'(by omega)) := List.getElem?_eq_getElem (by omega)
      rw [hy, cellsSl, Nat.mul_one, Option.bind_eq_some_iff] at e1
      obtain ⟨cs', hcs, hy'⟩ := e1
      obtain ⟨bv, rfl⟩ : ∃ bv, cs' = [bv] := by
        rcases DataW.trod_slice Tryz.underlying27 hy' with ⟨h1, _⟩ | ⟨_, _, _, _, _, _, _, h1, _⟩
        · exact ⟨_, h1⟩
        · exact ⟨_, h1⟩
      obtain ⟨bs, hB, hbl⟩ := bytes_of hy' (fun y hym => hz y (by
        rw [DataW.weights, Tryz.underlying31]
        refine List.mem_cons_of_mem _ (List.mem_append_left _ (mem_all (d := (elems[i]'(by omega)).1) (List.mem_map.2 ⟨_, List.mem_of_getElem? hy, rfl⟩) y hym))))
      exact ⟨bv, bs, cell_of_cells?_one hcs, hB, hbl⟩
    have pick : ∀ k, k ≤ len → ∃ bss : List (List UInt8), bss.length = k ∧ ∀ i bs, bss[i]? = some bs → ∃ bv, w.cell? (a.add i) = some bv ∧ BytesIs w bv bs ∧ bs.length ≤ 140737488351232 := by
      intro k
      induction k with
      | zero => exact fun _ => ⟨[], rfl, fun i bs hi => by simp at hi⟩
      | succ k ih =>
        intro hk
        obtain ⟨bss, h1, h2⟩ := ih (by omega)
        obtain ⟨bv, bs, c, hB, hbl⟩ := each k (by omega)
        refine ⟨bss ++ [bs], by simp [h1], fun i bs' hi => ?_⟩
        by_cases hik : i < bss.length
        · rw [List.getElem?_append_left hik] at hi
          exact h2 i bs' hi
        · have : i = k := by
            have := (List.getElem?_eq_some_iff.1 hi).1
            simp at this; omega
          subst this
          rw [← h1] at hi
          simp at hi
          subst hi
          exact ⟨bv, c, hB, hbl⟩
    obtain ⟨bss, h1, h2⟩ := pick len (Nat.le_refl _)
    exact ⟨bss, .inr ⟨a, cap, by rw [h1], by omega, h2⟩⟩
set_option maxRecDepth 100000 in
theorem contract (H : Type) (enc : TypeId × Value → H) (W : World) (base : Nat) (args : Array Value) (ds gs : List (DataW H)) (before : List MemPlace)
    (hval : ∀ (j : Nat) t v, Tryz.f4.params[j]? = some t → args[j]? = some v → Value.okWide Tryz.prog W .any base t v)
    (hW : DataW.Whole enc Tryz.prog Tryz.f4.params.toList Rows.hashesSpec.vars false W args.toList ds gs before)
    (hz0 : (DataW.weightsEach Tryz.prog (Tryz.f4.params.toList ++ (OpenSpec.ofChange Rows.hashesSpec).bare.plain.varTypes Tryz.prog) (ds ++ gs)).all (· ≤ reachBytes) = true) :
    Calls Tryz.prog 4 args W fun e W' => ∃ v, e = .returned v ∧ Rows.hashesSpec.post enc Tryz.prog Tryz.f4 false true false false W args v W' := by
  have hW' := hW
  obtain ⟨p, q, hA0, hV, rfl, hfz, hnd⟩ := hW
  have hA : DataW.TrodAll enc Tryz.prog W 0 (fun _ => true) true Tryz.f4.params.toList args.toList ds p := hA0
  rw [Tryz.params4] at hA hval hz0
  obtain ⟨v0, vs0, d0, ds0, p0, q0, hargs, rfl, rfl, h0, r0⟩ := trodAll_cons hA
  obtain ⟨rfl, rfl, rfl⟩ := trodAll_nil r0
  obtain rfl : args = #[v0] := by cases args; simp_all
  obtain ⟨rfl, rfl⟩ := trodVars_none hV
  clear hA0
  simp only [List.append_nil] at hW'
  have hz : ∀ y ∈ d0.weights Tryz.prog 31, y ≤ reachBytes := fun y hy => by
    have := List.all_eq_true.1 hz0 y (by
      show y ∈ DataW.weightsEach Tryz.prog (31 :: _) (d0 :: _)
      rw [DataW.weightsEach]
      exact List.mem_append_left _ hy)
    simpa using this
  have hlt : ∀ x ∈ p0, x.block < W.heap.size := fun x hx => by simpa using hW'.lt x hx
  have hraw : ∃ bss, ListIs W v0 bss := by
    obtain ⟨fuel, hf⟩ := h0
    obtain ⟨a0, len, cap, rfl⟩ := okWide_slice Tryz.underlying31 (hval 0 31 v0 rfl rfl)
    exact list_of (x := (d0, p0)) (by simpa [Value.cells] using hf) hz
  obtain ⟨bss, hraw⟩ := hraw
  refine (hashes_law W v0 bss hraw).mono fun e W' ⟨he, hb⟩ => ?_
  subst he
  have harg : DataW.Trod enc Tryz.prog W' 0 (fun b => decide (b < W.heap.size)) true 31 v0 d0 p0 :=
    Below.trod laidOut (by kernel_rfl) (of_decide_eq_true (by kernel_rfl)) h0 hb hlt
  exact ⟨_, rfl, ⟨_, _, _, [], _, [], hW', trodAll_mk1 (shut_bool Tryz.underlying4 _), trodAll_cons_mk harg trodAll_mk0, rfl, hb.frame _, fun h => by cases h⟩⟩
theorem laid_met (os : Os) : laidMet Tryz.prog Rows.hashesRow.laid (({ World.holding Tryz.prog os ⟨#[], #[], []⟩ with heap := (World.holding Tryz.prog os ⟨#[], #[], []⟩).heap.modify 0 fun o => match o with | .cells _ t frozen => .cells #[.string ⟨#[45, 62, 42]⟩, .string ⟨#[45, 62, 60, 62]⟩, .string ⟨#[42, 45, 62]⟩, .string ⟨#[45, 62, 43]⟩, .string ⟨#[45, 62, 37]⟩] t frozen | o => o } : World).forCall (fun _ _ => 0) ⟨#[], #[.slice none 0 0], []⟩).memory :=
  laidMet_of_run' 8 (by kernel_rfl) (by kernel_rfl)
theorem reads (os : Os) {H : Type} (enc : TypeId × Value → H) : ∃ places, DataW.whole enc Tryz.prog (({ World.holding Tryz.prog os ⟨#[], #[], []⟩ with heap := (World.holding Tryz.prog os ⟨#[], #[], []⟩).heap.modify 0 fun o => match o with | .cells _ t frozen => .cells #[.string ⟨#[45, 62, 42]⟩, .string ⟨#[45, 62, 60, 62]⟩, .string ⟨#[42, 45, 62]⟩, .string ⟨#[45, 62, 43]⟩, .string ⟨#[45, 62, 37]⟩] t frozen | o => o } : World).forCall (fun _ _ => 0) ⟨#[], #[.slice none 0 0], []⟩).memory Tryz.f4.params.toList Rows.hashesSpec.vars false #[Value.slice none 0 0].toList 8 = some ([.nil], [], places) :=
  ⟨[], by kernel_rfl⟩
set_option maxRecDepth 100000 in
theorem lifted (os : Os) (started : os.Started) (H : Type) (enc : TypeId × Value → H) (F : Stop.Interp) :
    ReturnsInHanded {} Tryz.checked os 4 .any ((OpenSpec.ofChange Rows.hashesSpec).preRow enc Tryz.prog Tryz.f4 Rows.hashesRow.domain false Rows.hashesRow.laid) (((OpenSpec.ofChange Rows.hashesSpec).at F).post enc Tryz.prog Tryz.f4 false true false false) := by
  obtain ⟨places, hx⟩ := reads os enc
  refine returnsInHanded_of_row (C := Tryz.checked) (s := OpenSpec.ofChange Rows.hashesSpec) own started (by kernel_rfl) Tryz.func4
    (witness_row_at (enc := enc) (C := Tryz.checked) false ({ World.holding Tryz.prog os ⟨#[], #[], []⟩ with heap := (World.holding Tryz.prog os ⟨#[], #[], []⟩).heap.modify 0 fun o => match o with | .cells _ t frozen => .cells #[.string ⟨#[45, 62, 42]⟩, .string ⟨#[45, 62, 60, 62]⟩, .string ⟨#[42, 45, 62]⟩, .string ⟨#[45, 62, 43]⟩, .string ⟨#[45, 62, 37]⟩] t frozen | o => o } : World) #[.slice none 0 0] rfl (by kernel_rfl) (by kernel_rfl) (by kernel_rfl)
      (OpenSpec.preRow_of_cond 8 hx (by kernel_rfl) (fun k hk => by cases hk) (by kernel_rfl) (laid_met os))) ?_
  intro W base args ds gs before hval hW _ _ hz _ _ _
  exact contract H enc W base args ds gs before hval hW hz
theorem said : Rows.HashesSaid :=
  OpenClaim.holds_of_cond 4 Tryz.f4 rfl rfl rfl rfl rfl rfl rfl ⟨rfl, rfl, rfl, rfl, rfl⟩ rfl rfl rfl rfl rfl (by kernel_rfl) Tryz.func4 (by kernel_rfl)
    (of_decide_eq_true (by kernel_rfl)) (by unfold Func.isWrapper; first | (rw [if_pos (by decide +kernel)]; kernel_rfl) | (rw [if_neg (by decide +kernel)]; exact ⟨rfl, rfl⟩))
    (fun os started H enc _ F => by rw [OpenClaim.pre_eq_preRow]; exact lifted os started H enc F)
theorem plain (f : FuncId) (fn : Func) (hf : Tryz.pinned.checked.prog.funcNamed "dossier/dossierlaw.Hashes" = some f) (hfn : Tryz.pinned.checked.prog.funcs[f]? = some fn) :
    false = Tryz.pinned.checked.prog.looks [] ∧ ∀ (j : Nat) t, fn.params[j]? = some t → Tryz.pinned.checked.prog.wantsStandIn t = false := by
  obtain rfl : f = 4 := Option.some.inj ((show Tryz.prog.funcNamed "dossier/dossierlaw.Hashes" = some 4 by kernel_rfl).symm.trans hf) |>.symm
  obtain rfl : fn = Tryz.f4 := (Option.some.inj (Tryz.func4.symm.trans hfn)).symm
  refine ⟨by kernel_rfl, fun j t ht => ?_⟩
  rw [Tryz.params4] at ht
  have hm : t ∈ [31] := by simpa using Array.mem_of_getElem? ht
  have hall : ([31].all fun u => !Tryz.prog.wantsStandIn u) = true := by kernel_rfl
  exact (show Tryz.prog.wantsStandIn t = false by simpa using List.all_eq_true.1 hall t hm)
end Go.Proofs.YtjmcokcdaddpcaaGreatDoor.hashes
namespace Go.Proofs.YtjmcokcdaddpcaaGreatDoor
/-- The tied card of Hashes. -/
theorem hashes_card : Rows.HashesCardSaid :=
  tied_goes .later _ _ _ _ hashes.said (by kernel_rfl) hashes_row_tie rfl ⟨rfl, rfl⟩ (by kernel_rfl) rfl hashes.plain (by kernel_rfl)
#print axioms hashes_card
end Go.Proofs.YtjmcokcdaddpcaaGreatDoor
