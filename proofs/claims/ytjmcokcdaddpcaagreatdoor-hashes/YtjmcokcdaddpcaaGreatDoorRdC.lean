import Derived.Test.YtjmcokcdaddpcaaGreatDoorRdB
set_option linter.unusedVariables false
set_option linter.unusedSimpArgs false
namespace Go.Proofs.YtjmcokcdaddpcaaGreatDoor
open Go.RowKit
set_option maxRecDepth 100000 in
set_option maxHeartbeats 400000 in
theorem take_any {B b : Nat} {w : World} {t : ByteArray} {r : Dsr.Rd} {s : St} (k : Nat) (h : RdAt B b w t r s) (hs : t.size ≤ 400) (ho : r.ok t.data.toList) (hS : SignsIn w) :
    Calls Tryz.prog 146 #[ptr b, .int .u8 k] w fun x w' => x = .returned (.tuple #[]) ∧ RdAt B b w' t (Dsr.take t.data.toList r k) s ∧ Kp (· = b) w w' := by
  by_cases h0 : r.now.kind = k
  · have hd : decide (r.now.kind = k) = true := by simp [h0]
    have H0 : Hid (r.now.kind = k) := h0
    have H : Hid (RdAt B b w t r s) := h
    clear h h0
    go_enter Tryz.func146, Tryz.ntmps146
    go_wp2_with fail
    refine (takeIf_any k H.out hs ho hS).mono ?_
    rintro e w1 ⟨rfl, h1, h2⟩
    have H1 : Hid (RdAt B b w1 t (Dsr.takeIf t.data.toList r k) s ∧ Kp (· = b) w w1) := ⟨h1, h2⟩
    clear h1 h2
    go_wp2_with fail
    go_end0
    have e : Dsr.take t.data.toList r k = Dsr.takeIf t.data.toList r k := by rw [Dsr.take, Dsr.takeIf, if_pos H0.out, if_pos H0.out]
    exact ⟨rfl, by rw [e]; exact H1.out.1, H1.out.2⟩
  · have hd : decide (r.now.kind = k) = false := by simp [h0]
    have H0 : Hid (¬ r.now.kind = k) := h0
    have H : Hid (RdAt B b w t r s) := h
    clear h h0
    go_enter Tryz.func146, Tryz.ntmps146
    go_wp2_with fail
    refine (takeIf_any k H.out hs ho hS).mono ?_
    rintro e w1 ⟨rfl, h1, h2⟩
    have e1 : Dsr.takeIf t.data.toList r k = r := by rw [Dsr.takeIf, if_neg H0.out]
    rw [e1] at h1
    have H1 : Hid (RdAt B b w1 t r s ∧ Kp (· = b) w w1) := ⟨h1, h2⟩
    clear h1 h2 e1
    go_wp2_with fail
    refine (refuse_any 2 H1.out.1 hs).mono ?_
    rintro e w2 ⟨rfl, h3, h4⟩
    have H3 : Hid (RdAt B b w2 t (Dsr.refuse t.data.toList r 2) s ∧ Kp (· = b) w1 w2) := ⟨h3, h4⟩
    clear h3 h4
    go_wp2_with fail
    go_end0
    have e : Dsr.take t.data.toList r k = Dsr.refuse t.data.toList r 2 := by rw [Dsr.take, if_neg H0.out]
    exact ⟨rfl, by rw [e]; exact H3.out.1, H1.out.2.trans H3.out.2 (fun _ h => .inl h)⟩
end Go.Proofs.YtjmcokcdaddpcaaGreatDoor
