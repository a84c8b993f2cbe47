import Derived.Test.YtjmcokcdaddpcaaGreatDoorCsD2
set_option linter.unusedVariables false
set_option linter.unusedSimpArgs false
namespace Go.Proofs.YtjmcokcdaddpcaaGreatDoor
open Go.RowKit
section
variable {W : World} {b : Nat} {e : Dsr.Ev} {v : Value}
theorem evB_set {j : Nat} {u : Value} (h : W.heap[b]? = some (evB e v)) : (W.setCell ⟨b, j, none⟩ u).heap[b]? = some (.cells (#[strV e.name, v, .bool e.done, .bool e.inn, .bool e.due].setIfInBounds j u) 177 (0, 0)) := blk_set h j u
set_option maxRecDepth 100000 in
theorem evDue_any (h : W.heap[b]? = some (evB e v)) : Calls Tryz.prog 176 #[ptr b] W fun x w' => x = .returned (.tuple #[]) ∧ w'.heap[b]? = some (evB (Dsr.eff 2 e) v) ∧ Kp (· = b) W w' := by
  have hlt : b < W.heap.size := (Array.getElem?_eq_some_iff.1 h).1
  obtain ⟨e0, e1, e2, e3, e4, ef⟩ := evB_cells h
  have H : Hid (W.heap[b]? = some (evB e v)) := h
  clear h
  go_enter Tryz.func176, Tryz.ntmps176
  go_wp2_with fail
  go_end0
  exact ⟨rfl, (evB_set (e := e) H.out).trans (by simp [Dsr.eff]), (Kp.refl (fun k => k = b) W).setCell (.inl rfl) _⟩
set_option maxRecDepth 100000 in
theorem evIn_any (h : W.heap[b]? = some (evB e v)) : Calls Tryz.prog 177 #[ptr b] W fun x w' => x = .returned (.tuple #[]) ∧ w'.heap[b]? = some (evB (Dsr.eff 3 e) v) ∧ Kp (· = b) W w' := by
  have hlt : b < W.heap.size := (Array.getElem?_eq_some_iff.1 h).1
  obtain ⟨e0, e1, e2, e3, e4, ef⟩ := evB_cells h
  have H : Hid (W.heap[b]? = some (evB e v)) := h
  clear h
  go_enter Tryz.func177, Tryz.ntmps177
  go_wp2_with fail
  go_end0
  exact ⟨rfl, (evB_set (e := e) H.out).trans (by simp [Dsr.eff]), (Kp.refl (fun k => k = b) W).setCell (.inl rfl) _⟩
set_option maxRecDepth 100000 in
theorem evOut_any (h : W.heap[b]? = some (evB e v)) : Calls Tryz.prog 178 #[ptr b] W fun x w' => x = .returned (.tuple #[]) ∧ w'.heap[b]? = some (evB (Dsr.eff 4 e) v) ∧ Kp (· = b) W w' := by
  have hlt : b < W.heap.size := (Array.getElem?_eq_some_iff.1 h).1
  obtain ⟨e0, e1, e2, e3, e4, ef⟩ := evB_cells h
  have H : Hid (W.heap[b]? = some (evB e v)) := h
  clear h
  go_enter Tryz.func178, Tryz.ntmps178
  go_wp2_with fail
  go_end0
  exact ⟨rfl, (evB_set (e := e) H.out).trans (by simp [Dsr.eff]), (Kp.refl (fun k => k = b) W).setCell (.inl rfl) _⟩
set_option maxRecDepth 100000 in
theorem evFinish_any (h : W.heap[b]? = some (evB e v)) : Calls Tryz.prog 91 #[ptr b] W fun x w' => x = .returned (.tuple #[]) ∧ w'.heap[b]? = some (evB (Dsr.finish e) v) ∧ Kp (· = b) W w' := by
  have hlt : b < W.heap.size := (Array.getElem?_eq_some_iff.1 h).1
  obtain ⟨e0, e1, e2, e3, e4, ef⟩ := evB_cells h
  have H : Hid (W.heap[b]? = some (evB e v)) := h
  clear h
  go_enter Tryz.func91, Tryz.ntmps91
  go_wp2_with fail
  go_end0
  refine ⟨rfl, ?_, ?_⟩
  rotate_left
  · exact ((Kp.refl (fun k => k = b) W).setCell (a := ⟨b, 2, none⟩) (.inl rfl) _).setCell (a := ⟨b, 4, none⟩) (.inl rfl) _
  rw [blk_set (evB_set H.out)]
  simp [Dsr.finish]
set_option maxRecDepth 100000 in
set_option maxHeartbeats 1600000 in
theorem takeEffect_any {k : Nat} (h2 : 2 ≤ k) (hk : k < 5) (lp : Nat) (h : W.heap[b]? = some (evB e v)) : Calls Tryz.prog 135 #[.agg #[.int .u8 k, ptr lp, ptr b]] W fun x w' => x = .returned (.tuple #[]) ∧ w'.heap[b]? = some (evB (Dsr.eff k e) v) ∧ Kp (· = b) W w' := by
  have hlt : b < W.heap.size := (Array.getElem?_eq_some_iff.1 h).1
  have HX : Hid (∀ o1 o2, ((W.alloc o1).alloc o2).drew.heap[b]? = some (evB e v)) := fun o1 o2 => by
    show ((W.alloc o1).alloc o2).heap[b]? = _
    rw [Below.heap_alloc _ _ _ (by simp; omega), Below.heap_alloc _ _ _ hlt]; exact h
  have HY : Hid (∀ o1 o2 w1, Kp (· = b) ((W.alloc o1).alloc o2).drew w1 → Kp (· = b) W w1) := fun o1 o2 w1 hb => ((((Kp.refl _ _).alloc _).alloc _).drew).trans hb (fun k hk => .inl hk)
  clear h
  rcases k with _ | _ | _ | _ | _ | k
  · omega
  · omega
  · go_enter Tryz.func135, Tryz.ntmps135
    go_wp2_with fail
    go_region_with (go_at_call 176; refine (evDue_any (HX.out _ _)).mono ?_; rintro x w1 ⟨rfl, hb1, hb2⟩)
    all_goals (have HB : Hid (w1.heap[b]? = some (evB (Dsr.eff 2 e) v) ∧ Kp (· = b) W w1) := ⟨hb1, HY.out _ _ _ hb2⟩; clear hb1 hb2; go_wp2_with fail; go_end0; exact ⟨rfl, HB.out⟩)
  · go_enter Tryz.func135, Tryz.ntmps135
    go_wp2_with fail
    go_region_with (go_at_call 177; refine (evIn_any (HX.out _ _)).mono ?_; rintro x w1 ⟨rfl, hb1, hb2⟩)
    all_goals (have HB : Hid (w1.heap[b]? = some (evB (Dsr.eff 3 e) v) ∧ Kp (· = b) W w1) := ⟨hb1, HY.out _ _ _ hb2⟩; clear hb1 hb2; go_wp2_with fail; go_end0; exact ⟨rfl, HB.out⟩)
  · go_enter Tryz.func135, Tryz.ntmps135
    go_wp2_with fail
    go_region_with (go_at_call 178; refine (evOut_any (HX.out _ _)).mono ?_; rintro x w1 ⟨rfl, hb1, hb2⟩)
    all_goals (have HB : Hid (w1.heap[b]? = some (evB (Dsr.eff 4 e) v) ∧ Kp (· = b) W w1) := ⟨hb1, HY.out _ _ _ hb2⟩; clear hb1 hb2; go_wp2_with fail; go_end0; exact ⟨rfl, HB.out⟩)
  · omega
end
end Go.Proofs.YtjmcokcdaddpcaaGreatDoor
