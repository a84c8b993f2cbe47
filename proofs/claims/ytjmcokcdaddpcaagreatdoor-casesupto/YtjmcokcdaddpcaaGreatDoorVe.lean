import Derived.Test.YtjmcokcdaddpcaaGreatDoorVd
set_option linter.unusedVariables false
set_option linter.unusedSimpArgs false
namespace Go.Proofs.YtjmcokcdaddpcaaGreatDoor
open Go.ChangeShapes Go.WideShapes Go.ChangeAt Go.RowKit
set_option maxRecDepth 100000 in
set_option maxHeartbeats 6400000 in
theorem cases_law (w : World) (v : Value) (zs : List StD) (hv : StepsIs w v zs) (hs : SignsIn w) (ht : TabP w) (h5 : 5 ≤ w.heap.size) :
    Calls Tryz.prog 5 #[v] w fun x w' => x = .returned (.bool true) ∧ Below w.heap.size w w' := by
  have H : Hid (StepsIs w v zs ∧ SignsIn w ∧ TabP w ∧ 5 ≤ w.heap.size) := ⟨hv, hs, ht, h5⟩
  clear hv hs ht h5
  go_enter Tryz.func5, Tryz.ntmps5
  go_wp2_with fail
  have hb : Below w.heap.size w (w.alloc (.cells #[.int .i64 3, .int .i64 4, .int .i64 5, .int .i64 6, .int .i64 7, .int .i64 8, .int .i64 9] 3)) := (Below.refl _ _).alloc (Nat.le_refl _) _
  refine (plays_any _ v zs w.heap.size (H.out.1.below hb) (H.out.2.1.below hb) (H.out.2.2.1.same (fun x hx => hb.block x (by have := H.out.2.2.2; omega))) (Nat.le_trans H.out.2.2.2 hb.size) (fun k hk => ?_)).mono ?_
  · have e := heap_alloc_new w (.cells #[.int .i64 3, .int .i64 4, .int .i64 5, .int .i64 6, .int .i64 7, .int .i64 8, .int .i64 9] 3)
    rcases (by omega : k = 0 ∨ k = 1 ∨ k = 2 ∨ k = 3 ∨ k = 4 ∨ k = 5 ∨ k = 6) with rfl | rfl | rfl | rfl | rfl | rfl | rfl <;> (unfold World.cell?; rw [e]; rfl)
  · rintro x w2 ⟨rfl, b2⟩
    have HF : Hid (Below w.heap.size w w2) := hb.trans (b2.mono hb.size)
    clear b2 hb
    go_wp2_with fail
    go_ret
    exact ⟨rfl, HF.out⟩
end Go.Proofs.YtjmcokcdaddpcaaGreatDoor
set_option linter.unusedVariables false
set_option linter.unusedSimpArgs false
namespace Go.Proofs.YtjmcokcdaddpcaaGreatDoor
open Go.ChangeShapes Go.WideShapes Go.ChangeAt Go.RowKit
namespace casesU
/-- What a table holds, cell for cell. -/
def tabCells : DataW Unit → Array Value
  | .agg ds => (ds.map fun d => match d with
    | .lit (.int k z) => Value.int k z
    | .lit (.string b) => Value.string ⟨b.toArray⟩
    | _ => undef).toArray
  | _ => #[]
def put (g : Nat) (d : DataW Unit) (h : Array Obj) : Array Obj := h.modify g fun o => match o with
  | .cells _ t frozen => .cells (tabCells d) t frozen
  | o => o
def laidHeap (h : Array Obj) : Array Obj := put 4 Rows.laid_math_bits_deBruijn64tab (put 3 Rows.laid_math_bits_deBruijn32tab (put 2 Rows.laid_internal_strconv_uint64pow10 (put 0 Rows.laid_dossier_graphs_signs h)))
set_option maxRecDepth 100000 in
theorem contract (H : Type) (enc : TypeId × Value → H) (W : World) (base : Nat) (args : Array Value) (ds gs : List (DataW H)) (before : List MemPlace)
    (hval : ∀ (j : Nat) t v, Tryz.f5.params[j]? = some t → args[j]? = some v → Value.okWide Tryz.prog W .any base t v)
    (hW : DataW.Whole enc Tryz.prog Tryz.f5.params.toList Rows.casesSpec.vars false W args.toList ds gs before) (hL : laidMetH Tryz.prog Rows.casesUptoRow.laid W) (hk : Rows.uptoSmall H (ds ++ gs) = true) :
    Calls Tryz.prog 5 args W fun e W' => ∃ v, e = .returned v ∧ Rows.casesSpec.post enc Tryz.prog Tryz.f5 false true false false W args v W' := by
  have hW' := hW
  obtain ⟨p, q, hA0, hV, rfl, hfz, hnd⟩ := hW
  have hA : DataW.TrodAll enc Tryz.prog W 0 (fun _ => true) true Tryz.f5.params.toList args.toList ds p := hA0
  rw [Tryz.params5] at hA hval
  obtain ⟨v1, vs1, d1, ds1, p1, q1, hargs, rfl, rfl, h1, r1⟩ := trodAll_cons hA
  obtain ⟨rfl, rfl, rfl⟩ := trodAll_nil r1
  obtain rfl : args = #[v1] := by cases args; simp_all
  obtain ⟨rfl, rfl⟩ := trodVars_none hV
  clear hA0
  simp only [List.append_nil, List.nil_append] at hW' hk
  have hb : Rows.uptoBulk d1 ≤ 1048576 := by
    have h := of_decide_eq_true hk
    simp only [Rows.uptoBulkAll] at h
    omega
  have hlt : ∀ x ∈ p1, x.block < W.heap.size := fun x hx => by simpa using hW'.lt x (by simpa using hx)
  have hraw : ∃ zs, StepsIs W v1 zs := by
    obtain ⟨fuel, hf⟩ := h1
    obtain ⟨a0, len, cap, rfl⟩ := okWide_slice Tryz.underlying35 (hval 0 35 v1 rfl rfl)
    exact steps_of (by simpa [Value.cells] using hf) hb
  obtain ⟨zs, hraw⟩ := hraw
  obtain ⟨l1, l2, l3⟩ := ca_laid hL
  refine (cases_law W v1 zs hraw l1 l2 l3).mono fun e W' ⟨he, hbe⟩ => ?_
  subst he
  have harg : DataW.Trod enc Tryz.prog W' 0 (fun b => decide (b < W.heap.size)) true 35 v1 d1 p1 :=
    Below.trod ca_laidOut (by kernel_rfl) (of_decide_eq_true (by kernel_rfl)) h1 hbe hlt
  exact ⟨_, rfl, ⟨_, _, _, [], _, [], hW', trodAll_mk1 (shut_bool Tryz.underlying4 _), trodAll_cons_mk harg trodAll_mk0, rfl, hbe.frame _, fun h => by cases h⟩⟩
theorem laid_met (os : Os) : laidMet Tryz.prog Rows.casesUptoRow.laid (({ World.holding Tryz.prog os ⟨#[], #[], []⟩ with heap := laidHeap (World.holding Tryz.prog os ⟨#[], #[], []⟩).heap } : World).forCall (fun _ _ => 0) ⟨#[], #[.slice none 0 0], []⟩).memory :=
  laidMet_of_run' 8 (by kernel_rfl) (by kernel_rfl)
theorem reads (os : Os) {H : Type} (enc : TypeId × Value → H) : ∃ places, DataW.whole enc Tryz.prog (({ World.holding Tryz.prog os ⟨#[], #[], []⟩ with heap := laidHeap (World.holding Tryz.prog os ⟨#[], #[], []⟩).heap } : World).forCall (fun _ _ => 0) ⟨#[], #[.slice none 0 0], []⟩).memory Tryz.f5.params.toList Rows.casesSpec.vars false #[Value.slice none 0 0].toList 8 = some ([.nil], [], places) :=
  ⟨[], by kernel_rfl⟩
set_option maxRecDepth 100000 in
theorem lifted (os : Os) (started : os.Started) (H : Type) (enc : TypeId × Value → H) (F : Stop.Interp) :
    ReturnsInHanded {} Tryz.checked os 5 .any ((Rows.OpenSpec.upto Rows.casesSpec).preRow enc Tryz.prog Tryz.f5 Rows.casesUptoRow.domain false Rows.casesUptoRow.laid) (((Rows.OpenSpec.upto Rows.casesSpec).at F).post enc Tryz.prog Tryz.f5 false true false false) := by
  obtain ⟨places, hx⟩ := reads os enc
  refine returnsInHanded_of_row (C := Tryz.checked) (s := Rows.OpenSpec.upto Rows.casesSpec) ca_own started (by kernel_rfl) Tryz.func5
    (witness_row_at (enc := enc) (C := Tryz.checked) false ({ World.holding Tryz.prog os ⟨#[], #[], []⟩ with heap := laidHeap (World.holding Tryz.prog os ⟨#[], #[], []⟩).heap } : World) #[.slice none 0 0] rfl (by kernel_rfl) (by kernel_rfl) (by kernel_rfl)
      (OpenSpec.preRow_of_cond 8 hx (by kernel_rfl) (fun k hk => by cases hk; kernel_rfl) (by kernel_rfl) (laid_met os))) ?_
  intro W base args ds gs before hval hW _ hcond _ hL _ _
  exact contract H enc W base args ds gs before hval hW hL (hcond _ rfl)
end casesU
end Go.Proofs.YtjmcokcdaddpcaaGreatDoor
