import Derived.Test.YtjmcokcdaddpcaaGreatDoorProg
import Derived.Test.YtjmcokcdaddpcaaGreatDoorPure
import Derived.WalkKit
import Derived.Lib.Strings
set_option linter.unusedVariables false
set_option linter.unusedSimpArgs false
namespace Go.Proofs.YtjmcokcdaddpcaaGreatDoor
theorem ret_bool {a b : Bool} (h : a = b) : Ending.returned (.bool a) = .returned (.bool b) := by rw [h]
theorem ret_int {k : IntKind} {a b : Int} (h : a = b) : Ending.returned (.int k a) = .returned (.int k b) := by rw [h]
set_option maxHeartbeats 400000 in
theorem isBlank_any (c : UInt8) (w : World) : Calls Tryz.prog 142 #[.int .u8 c.toNat] w fun e w' => e = .returned (.bool (Dsr.blank c)) ∧ w' = w := by
  go_enter Tryz.func142, Tryz.ntmps142
  go_wp2
  all_goals
    go_ret
    refine ⟨ret_bool ?_, rfl⟩
    unfold Dsr.blank
    rw [Bool.eq_iff_iff]; simp; try omega
set_option maxHeartbeats 400000 in
theorem isLetter_any (c : UInt8) (w : World) : Calls Tryz.prog 143 #[.int .u8 c.toNat] w fun e w' => e = .returned (.bool (Dsr.letter c)) ∧ w' = w := by
  go_enter Tryz.func143, Tryz.ntmps143
  go_wp2
  all_goals
    go_ret
    refine ⟨ret_bool ?_, rfl⟩
    unfold Dsr.letter
    rw [Bool.eq_iff_iff]; simp; try omega
set_option maxHeartbeats 400000 in
theorem isDigit_any (c : UInt8) (w : World) : Calls Tryz.prog 180 #[.int .u8 c.toNat] w fun e w' => e = .returned (.bool (Dsr.digit c)) ∧ w' = w := by
  go_enter Tryz.func180, Tryz.ntmps180
  go_wp2
  all_goals
    go_ret
    refine ⟨ret_bool ?_, rfl⟩
    unfold Dsr.digit
    rw [Bool.eq_iff_iff]; simp; try omega
set_option maxHeartbeats 400000 in
theorem wordKind_any (s : ByteArray) (w : World) : Calls Tryz.prog 181 #[.string s] w fun e w' => e = .returned (.int .u8 (Dsr.wordKind s.toList)) ∧ w' = w := by
  go_enter Tryz.func181, Tryz.ntmps181
  go_wp2
  all_goals
    go_ret
    refine ⟨ret_int ?_, rfl⟩
    simp only [Dsr.wordKind, *]; rfl
theorem isPrefix_yes (s p : ByteArray) (_h : p.size ≤ s.size) : ((s.extract 0 p.size).toList == p.toList) = p.data.toList.isPrefixOf s.data.toList := by
  rw [Bool.eq_iff_iff, List.isPrefixOf_iff_prefix, List.prefix_iff_eq_take, beq_iff_eq, Lib.extract_toList, Lib.toList_data]
  simp only [List.drop_zero, Nat.sub_zero]
  have : p.data.toList.length = p.size := by simp
  rw [this]; exact eq_comm
theorem isPrefix_no (s p : ByteArray) (h : ¬ p.size ≤ s.size) : false = p.data.toList.isPrefixOf s.data.toList := by
  symm; rw [Bool.eq_false_iff, ne_eq, List.isPrefixOf_iff_prefix]
  intro hp; have := hp.length_le; simp at this; exact h this
set_option maxHeartbeats 400000 in
theorem hasPrefix_any (s p : ByteArray) (w : World) : Calls Tryz.prog 182 #[.string s, .string p] w fun e w' => e = .returned (.bool (p.data.toList.isPrefixOf s.data.toList)) ∧ w' = w := by
  go_enter Tryz.func182, Tryz.ntmps182
  go_wp2
  · go_ret
    exact ⟨ret_bool (isPrefix_yes _ _ ‹_›), rfl⟩
  · go_ret
    exact ⟨ret_bool (isPrefix_no _ _ ‹_›), rfl⟩
end Go.Proofs.YtjmcokcdaddpcaaGreatDoor
