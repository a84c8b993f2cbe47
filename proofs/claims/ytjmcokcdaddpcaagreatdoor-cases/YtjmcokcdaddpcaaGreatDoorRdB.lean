import Derived.Test.YtjmcokcdaddpcaaGreatDoorUb
set_option linter.unusedVariables false
set_option linter.unusedSimpArgs false
namespace Go.Proofs.YtjmcokcdaddpcaaGreatDoor
open Go.RowKit
set_option maxRecDepth 100000 in
set_option maxHeartbeats 1600000 in
theorem takeIf_any {B b : Nat} {w : World} {t : ByteArray} {r : Dsr.Rd} {s : St} (k : Nat) (h : RdAt B b w t r s) (hs : t.size ≤ 400) (ho : r.ok t.data.toList) (hS : SignsIn w) :
    Calls Tryz.prog 183 #[ptr b, .int .u8 k] w fun x w' => x = .returned (.bool (decide (r.now.kind = k))) ∧ RdAt B b w' t (Dsr.takeIf t.data.toList r k) s ∧ Kp (· = b) w w' := by
  obtain ⟨c0, c1, c2, c3, c4, c5, c6, c7, c8, c9, fz⟩ := h.cells
  have hsz : t.data.toList.length = t.size := by simp
  have hlt := h.lt
  by_cases h0 : r.now.kind = k
  · have hb : ((r.now.kind : Int) != (k : Int)) = false := by simp [h0]
    have H : Hid (RdAt B b w t r s) := h
    have H0 : Hid (r.now.kind = k) := h0
    have HS : Hid (SignsIn w) := hS
    have ho' : r.now.at_ + r.now.text.length ≤ t.size := by simpa [Dsr.Rd.ok] using ho
    have HO : Hid (r.now.at_ + r.now.text.length ≤ t.size) := ho'
    have hO : (r.now.at_ : Int) + (r.now.text.length : Int) ≤ 400 := by have := HO.out; omega
    clear h h0 hS ho ho' c5 c6 c7 c8 c9 hsz
    go_enter Tryz.func183, Tryz.ntmps183
    go_wp2_with fail
    go_region_with (go_at_call 98; refine (scan_at t _ (r.now.at_ + r.now.text.length) _ (wrap_sum _ _ HO.out hs) hs HO.out (signs_drew HS.out)).mono ?_; rintro e w1 ⟨rfl, hb1⟩; obtain ⟨H1, d1, d2, d3, d4, fz1⟩ := rd_after H.out hb1)
    all_goals
      go_wp2_with fail
      go_ret
      refine ⟨ret_bool (by simp [H0.out]), ?_, (((((Kp.refl _ w).ofBelow H1.out.2).set 1 _).set 2 _).set 3 _).set 4 _⟩
      rw [Dsr.takeIf, if_pos H0.out]
      refine H1.out.1.put rfl rfl rfl ?_ ?_
      · rw [blk_set (blk_set (blk_set (blk_set H1.out.1.blk 1 _) 2 _) 3 _) 4 _]
        simp [rdCells, Dsr.step]
      · intro k hk hne
        repeat rw [heap_setCell_other _ _ _ _ hne]
  · have hb : ((r.now.kind : Int) != (k : Int)) = true := by simp; omega
    have H : Hid (RdAt B b w t r s) := h
    have H0 : Hid (¬ r.now.kind = k) := h0
    clear h h0 hS ho
    go_enter Tryz.func183, Tryz.ntmps183
    go_wp2_with fail
    go_ret
    exact ⟨ret_bool (by simp [H0.out]), by rw [Dsr.takeIf, if_neg H0.out]; exact H.out, Kp.refl _ _⟩
end Go.Proofs.YtjmcokcdaddpcaaGreatDoor
