import Derived.Test.YtjmcokcdaddpcaaGreatDoorProg
import Derived.Test.YtjmcokcdaddpcaaGreatDoorUa
import Derived.WalkKit
import Derived.Lib.Strings
import Derived.KernelRfl
set_option linter.unusedVariables false
set_option linter.unusedSimpArgs false
namespace Go.Proofs.YtjmcokcdaddpcaaGreatDoor
theorem ret_bool {a b : Bool} (h : a = b) : Ending.returned (.bool a) = .returned (.bool b) := by rw [h]
theorem ret_int {k : IntKind} {a b : Int} (h : a = b) : Ending.returned (.int k a) = .returned (.int k b) := by rw [h]
set_option maxHeartbeats 400000 in
theorem isBlank_any (c : UInt8) (w : World) : Calls Tryz.prog 142 #[.int .u8 c.toNat] w fun e w' => e = .returned (.bool (Dsr.blank c)) ∧ w' = w := by
  go_enter Tryz.func142, Tryz.ntmps142
  go_wp2
  all_goals
    go_ret
    refine ⟨ret_bool ?_, rfl⟩
    unfold Dsr.blank
    rw [Bool.eq_iff_iff]; simp; try omega
set_option maxHeartbeats 400000 in
theorem isLetter_any (c : UInt8) (w : World) : Calls Tryz.prog 143 #[.int .u8 c.toNat] w fun e w' => e = .returned (.bool (Dsr.letter c)) ∧ w' = w := by
  go_enter Tryz.func143, Tryz.ntmps143
  go_wp2
  all_goals
    go_ret
    refine ⟨ret_bool ?_, rfl⟩
    unfold Dsr.letter
    rw [Bool.eq_iff_iff]; simp; try omega
set_option maxHeartbeats 400000 in
theorem isDigit_any (c : UInt8) (w : World) : Calls Tryz.prog 180 #[.int .u8 c.toNat] w fun e w' => e = .returned (.bool (Dsr.digit c)) ∧ w' = w := by
  go_enter Tryz.func180, Tryz.ntmps180
  go_wp2
  all_goals
    go_ret
    refine ⟨ret_bool ?_, rfl⟩
    unfold Dsr.digit
    rw [Bool.eq_iff_iff]; simp; try omega
set_option maxHeartbeats 400000 in
theorem wordKind_any (s : ByteArray) (w : World) : Calls Tryz.prog 181 #[.string s] w fun e w' => e = .returned (.int .u8 (Dsr.wordKind s.toList)) ∧ w' = w := by
  go_enter Tryz.func181, Tryz.ntmps181
  go_wp2
  all_goals
    go_ret
    refine ⟨ret_int ?_, rfl⟩
    simp only [Dsr.wordKind, *]; rfl
theorem isPrefix_yes (s p : ByteArray) (_h : p.size ≤ s.size) : ((s.extract 0 p.size).toList == p.toList) = p.data.toList.isPrefixOf s.data.toList := by
  rw [Bool.eq_iff_iff, List.isPrefixOf_iff_prefix, List.prefix_iff_eq_take, beq_iff_eq, Lib.extract_toList, Lib.toList_data]
  simp only [List.drop_zero, Nat.sub_zero]
  have : p.data.toList.length = p.size := by simp
  rw [this]; exact eq_comm
theorem isPrefix_no (s p : ByteArray) (h : ¬ p.size ≤ s.size) : false = p.data.toList.isPrefixOf s.data.toList := by
  symm; rw [Bool.eq_false_iff, ne_eq, List.isPrefixOf_iff_prefix]
  intro hp; have := hp.length_le; simp at this; exact h this
set_option maxHeartbeats 400000 in
theorem hasPrefix_any (s p : ByteArray) (w : World) : Calls Tryz.prog 182 #[.string s, .string p] w fun e w' => e = .returned (.bool (p.data.toList.isPrefixOf s.data.toList)) ∧ w' = w := by
  go_enter Tryz.func182, Tryz.ntmps182
  go_wp2
  · go_ret
    exact ⟨ret_bool (isPrefix_yes _ _ ‹_›), rfl⟩
  · go_ret
    exact ⟨ret_bool (isPrefix_no _ _ ‹_›), rfl⟩
end Go.Proofs.YtjmcokcdaddpcaaGreatDoor
set_option linter.unusedVariables false
set_option linter.unusedSimpArgs false
namespace Go.Proofs.YtjmcokcdaddpcaaGreatDoor
open Go.RowKit
/-- A token as a value. -/
abbrev tokV (t : Dsr.Tok) : Value := .agg #[.int .u8 t.kind, .int .u8 t.rule, .int .i64 t.at_, .string ⟨t.text.toArray⟩]
theorem byte_some (s : ByteArray) (k : Nat) (h : k < s.size) : s.data.toList[k]? = some s[k] := by
  rw [List.getElem?_eq_getElem (by simpa using h)]; rfl
theorem scanWord_tok (s : ByteArray) (n k : Nat) (h : k = n + Dsr.wordLen (s.data.toList.drop n)) :
    Ending.returned (.agg #[.int .u8 (Dsr.wordKind (s.extract n k).toList), .int .u8 0, .int .i64 n, .string (s.extract n k)]) = .returned (tokV (Dsr.scanWord (s.data.toList.drop n) n)) := by
  have e : s.extract n k = ⟨((s.data.toList.drop n).take (Dsr.wordLen (s.data.toList.drop n))).toArray⟩ := by
    rw [Lib.extract_eq, h, Nat.add_sub_cancel_left]
  rw [e, ByteArray.toList_mk]; rfl
set_option maxHeartbeats 400000 in
theorem scanWord_any (s : ByteArray) (n : Nat) (w : World) (hs : s.size ≤ 400) (hn : n ≤ s.size) :
    Calls Tryz.prog 144 #[.string s, .int .i64 n] w fun e w' => e = .returned (tokV (Dsr.scanWord (s.data.toList.drop n) n)) ∧ Below w.heap.size w w' := by
  have hn' : (n : Int) ≤ 400 := by omega
  go_enter Tryz.func144, Tryz.ntmps144
  go_wp2_with fail
  go_loop [5] (fun i => ∃ k : Nat, n ≤ k ∧ k ≤ s.size ∧ i = .int .i64 k ∧ k + Dsr.wordLen (s.data.toList.drop k) = n + Dsr.wordLen (s.data.toList.drop n)) (fun i => s.size - (intOf i).toNat)
  case atStart => exact ⟨n, Nat.le_refl _, hn, rfl, rfl⟩
  case round =>
    obtain ⟨k, hk1, hk2, rfl, hk3⟩ := hrel
    have H3 : Hid (k + Dsr.wordLen (s.data.toList.drop k) = n + Dsr.wordLen (s.data.toList.drop n)) := hk3
    clear hk3
    by_cases hlt : k < s.size
    · have HW : Hid (Dsr.wordLen (s.data.toList.drop k) = if Dsr.wordy s[k] then Dsr.wordLen (s.data.toList.drop (k + 1)) + 1 else 0) := Dsr.wordLen_step (byte_some s k hlt)
      by_cases hl : Dsr.letter s[k] = true
      · go_wp2_with (go_at_call 143; refine (isLetter_any _ _).mono ?_; rintro e w' ⟨rfl, rfl⟩)
        go_round
        case rel => exact ⟨k + 1, by omega, by omega, by go_num, by have a := H3.out; have b := HW.out; simp [Dsr.wordy, hl] at b; omega⟩
        case measure => simp [intOf]; omega
      · have hl' : Dsr.letter s[k] = false := by simpa using hl
        clear hl
        by_cases hd : Dsr.digit s[k] = true
        · go_wp2_with (first | (go_at_call 143; refine (isLetter_any _ _).mono ?_; rintro e w' ⟨rfl, rfl⟩) | (go_at_call 180; refine (isDigit_any _ _).mono ?_; rintro e w' ⟨rfl, rfl⟩))
          go_round
          case rel => exact ⟨k + 1, by omega, by omega, by go_num, by have a := H3.out; have b := HW.out; simp [Dsr.wordy, hl', hd] at b; omega⟩
          case measure => simp [intOf]; omega
        · have hd' : Dsr.digit s[k] = false := by simpa using hd
          clear hd
          go_wp2_with (first | (go_at_call 143; refine (isLetter_any _ _).mono ?_; rintro e w' ⟨rfl, rfl⟩) | (go_at_call 180; refine (isDigit_any _ _).mono ?_; rintro e w' ⟨rfl, rfl⟩) | (go_at_call 181; refine (wordKind_any _ _).mono ?_; rintro e w' ⟨rfl, rfl⟩))
          have b := HW.out
          simp [Dsr.wordy, hl', hd'] at b
          have hkn : k = n + Dsr.wordLen (s.data.toList.drop n) := by have a := H3.out; omega
          exact bodyPost_ret (v := .agg #[.int .u8 (Dsr.wordKind (s.extract n k).toList), .int .u8 0, .int .i64 n, .string (s.extract n k)]) (by simp [results, Tryz.results144, go_sem]) rfl ⟨scanWord_tok s n k hkn, (Below.refl _ _).alloc (Nat.le_refl _) _⟩
    · have hkn : k = n + Dsr.wordLen (s.data.toList.drop n) := by have a := H3.out; rw [Dsr.wordLen_end (by simp; omega)] at a; omega
      have HK : Hid (k = n + Dsr.wordLen (s.data.toList.drop n)) := hkn
      clear hkn
      go_wp2_with (first | (go_at_call 181; refine (wordKind_any _ _).mono ?_; rintro e w' ⟨rfl, rfl⟩))
      exact bodyPost_ret (v := .agg #[.int .u8 (Dsr.wordKind (s.extract n k).toList), .int .u8 0, .int .i64 n, .string (s.extract n k)]) (by simp [results, Tryz.results144, go_sem]) rfl ⟨scanWord_tok s n k HK.out, (Below.refl _ _).alloc (Nat.le_refl _) _⟩
end Go.Proofs.YtjmcokcdaddpcaaGreatDoor
set_option linter.unusedVariables false
set_option linter.unusedSimpArgs false
namespace Go.Proofs.YtjmcokcdaddpcaaGreatDoor
open Go.RowKit
/-- The table of signs, as it lies in memory. -/
abbrev signsV : Value := .agg #[.string ⟨#[45, 62, 42]⟩, .string ⟨#[45, 62, 60, 62]⟩, .string ⟨#[42, 45, 62]⟩, .string ⟨#[45, 62, 43]⟩, .string ⟨#[45, 62, 37]⟩]
theorem hasPrefix_sign (s : ByteArray) (n : Nat) (p : ByteArray) (b : Bool) (w : World) (hs : s.size ≤ 400) (hb : p.data.toList.isPrefixOf (s.data.toList.drop n) = b) :
    Calls Tryz.prog 182 #[.string (s.extract n s.size), .string p] w fun e w' => e = .returned (.bool b) ∧ w' = w := by
  refine (hasPrefix_any _ _ _).mono ?_
  rintro e w' ⟨rfl, rfl⟩
  refine ⟨ret_bool ?_, rfl⟩
  rw [Lib.extract_data, ← hb]
  congr 1
  rw [List.take_of_length_le]; simp
theorem slice_one (s : ByteArray) (n : Nat) (h : n + 1 ≤ s.size) (w : World) :
    (Instr.slice 9 (.string s) (some (.int .i64 n)) (some (.int .i64 ((n : Int) + 1))) none).run Tryz.prog w = .ok (.string (s.extract n (n + 1))) w := by
  have a : (0 : Int) ≤ (n : Int) + 1 ∧ (n : Int) + 1 ≤ (s.size : Int) := by omega
  have b : ((n : Int) + 1).toNat = n + 1 := by omega
  simp [Instr.slice, Instr.sliceBounds, Instr.sliceBound, asIntOf, run_underlying Tryz.underlying9, a, b, go_sem]
theorem oneKind_ret (s : ByteArray) (n : Nat) (l : List UInt8) (hl : l = (s.data.toList.drop n).take 1) (h5 : 5 ≤ Dsr.signOf (s.data.toList.drop n)) (k : Nat) (hk : k = Dsr.oneKind l) :
    Ending.returned (.agg #[.int .u8 k, .int .u8 0, .int .i64 n, .string ⟨l.toArray⟩]) = .returned (tokV (Dsr.scanSign (s.data.toList.drop n) n)) := by
  subst hl hk
  have h6 := Dsr.signOf_le (s.data.toList.drop n)
  rw [Dsr.scanSign, if_neg (by omega)]; rfl
set_option maxRecDepth 100000 in
set_option maxHeartbeats 400000 in
theorem scanSign_any (s : ByteArray) (n : Nat) (w : World) (hs : s.size ≤ 400) (hn : n < s.size)
    (c0 : w.cell? ⟨0, 0, none⟩ = some (.string ⟨#[45, 62, 42]⟩)) (c1 : w.cell? ⟨0, 1, none⟩ = some (.string ⟨#[45, 62, 60, 62]⟩)) (c2 : w.cell? ⟨0, 2, none⟩ = some (.string ⟨#[42, 45, 62]⟩)) (c3 : w.cell? ⟨0, 3, none⟩ = some (.string ⟨#[45, 62, 43]⟩)) (c4 : w.cell? ⟨0, 4, none⟩ = some (.string ⟨#[45, 62, 37]⟩)) (hz : 0 < w.heap.size) :
    Calls Tryz.prog 145 #[.string s, .int .i64 n] w fun e w' => e = .returned (tokV (Dsr.scanSign (s.data.toList.drop n) n)) ∧ Below w.heap.size w w' := by
  have hn' : (n : Int) < 400 := by omega
  have hn1 : (n : Int) + 1 ≤ (s.size : Int) := by omega
  have hn2 : n + 1 ≤ s.size := by omega
  have i0 : ∀ w : World, (Instr.index 210 signsV (.int .i64 0)).run Tryz.prog w = .ok (.string ⟨#[45, 62, 42]⟩) w := fun _ => by kernel_rfl
  have i1 : ∀ w : World, (Instr.index 210 signsV (.int .i64 1)).run Tryz.prog w = .ok (.string ⟨#[45, 62, 60, 62]⟩) w := fun _ => by kernel_rfl
  have i2 : ∀ w : World, (Instr.index 210 signsV (.int .i64 2)).run Tryz.prog w = .ok (.string ⟨#[42, 45, 62]⟩) w := fun _ => by kernel_rfl
  have i3 : ∀ w : World, (Instr.index 210 signsV (.int .i64 3)).run Tryz.prog w = .ok (.string ⟨#[45, 62, 43]⟩) w := fun _ => by kernel_rfl
  have i4 : ∀ w : World, (Instr.index 210 signsV (.int .i64 4)).run Tryz.prog w = .ok (.string ⟨#[45, 62, 37]⟩) w := fun _ => by kernel_rfl
  go_enter Tryz.func145, Tryz.ntmps145
  go_wp2_with fail
  go_loop [9] (fun i => ∃ k : Nat, k ≤ 5 ∧ i = .int .i64 k ∧ k ≤ Dsr.signOf (s.data.toList.drop n)) (fun i => 5 - (intOf i).toNat)
  case atStart => exact ⟨0, by omega, rfl, Nat.zero_le _⟩
  case round =>
    obtain ⟨k, hk1, rfl, hk2⟩ := hrel
    have HK : Hid (k ≤ Dsr.signOf (s.data.toList.drop n)) := hk2
    clear hk2
    by_cases hk : k < 5
    · rcases hb : (Dsr.signs.getD k []).isPrefixOf (s.data.toList.drop n) with _ | _
      · have HB : Hid ((Dsr.signs.getD k []).isPrefixOf (s.data.toList.drop n) = false) := hb
        clear hb
        rcases k with _ | _ | _ | _ | _ | k
        all_goals first
          | omega
          | (go_wp2_with (go_at_call 182; refine (hasPrefix_sign s n _ false _ hs HB.out).mono ?_; rintro e w' ⟨rfl, rfl⟩)
             go_round
             case rel => exact ⟨_, by omega, by go_num, Dsr.signOf_next _ _ HK.out (by omega) HB.out⟩
             case measure => simp [intOf])
      · have HB : Hid ((Dsr.signs.getD k []).isPrefixOf (s.data.toList.drop n) = true) := hb
        clear hb
        rcases k with _ | _ | _ | _ | _ | k
        all_goals first
          | omega
          | (go_wp2_with (go_at_call 182; refine (hasPrefix_sign s n _ true _ hs HB.out).mono ?_; rintro e w' ⟨rfl, rfl⟩)
             have hh := Dsr.signOf_here _ _ HK.out (by omega) HB.out
             refine bodyPost_ret (v := tokV (Dsr.scanSign (s.data.toList.drop n) n)) ?_ rfl ⟨rfl, (Below.refl _ _).alloc (Nat.le_refl _) _⟩
             simp [Dsr.scanSign, hh, Dsr.signs]
             simp [results, Tryz.results145, go_sem])
    · have hk5 : k = 5 := by omega
      subst hk5
      clear hk1 hk
      have e1 : s.extract n (n + 1) = ⟨((s.data.toList.drop n).take 1).toArray⟩ := by rw [Lib.extract_eq, Nat.add_sub_cancel_left]
      have hsl : ∀ w : World, (Instr.slice 9 (.string s) (some (.int .i64 n)) (some (.int .i64 ((n : Int) + 1))) none).run Tryz.prog w = .ok (.string ⟨((s.data.toList.drop n).take 1).toArray⟩) w := fun w => by rw [slice_one s n hn2 w, e1]
      clear e1
      generalize hL : (s.data.toList.drop n).take 1 = L at hsl
      have HL := hL.symm
      have HL' : Hid (L = (s.data.toList.drop n).take 1) := HL
      clear hL HL
      go_wp2_with fail
      · exact bodyPost_ret (v := .agg #[.int .u8 ((7 : Nat) : Int), .int .u8 0, .int .i64 n, .string ⟨L.toArray⟩]) (by simp [results, Tryz.results145, go_sem]) rfl ⟨oneKind_ret s n L HL'.out HK.out 7 (by simp only [Dsr.oneKind, *]; rfl), by repeat (first | exact Below.refl _ _ | refine Below.alloc ?_ (by simp) _ | refine Below.setCell ?_ (by simp) _)⟩
      · exact bodyPost_ret (v := .agg #[.int .u8 ((8 : Nat) : Int), .int .u8 0, .int .i64 n, .string ⟨L.toArray⟩]) (by simp [results, Tryz.results145, go_sem]) rfl ⟨oneKind_ret s n L HL'.out HK.out 8 (by simp only [Dsr.oneKind, *]; rfl), by repeat (first | exact Below.refl _ _ | refine Below.alloc ?_ (by simp) _ | refine Below.setCell ?_ (by simp) _)⟩
      · exact bodyPost_ret (v := .agg #[.int .u8 ((0 : Nat) : Int), .int .u8 0, .int .i64 n, .string ⟨L.toArray⟩]) (by simp [results, Tryz.results145, go_sem]) rfl ⟨oneKind_ret s n L HL'.out HK.out 0 (by simp only [Dsr.oneKind, *]; rfl), by repeat (first | exact Below.refl _ _ | refine Below.alloc ?_ (by simp) _ | refine Below.setCell ?_ (by simp) _)⟩
end Go.Proofs.YtjmcokcdaddpcaaGreatDoor
set_option linter.unusedVariables false
set_option linter.unusedSimpArgs false
namespace Go.Proofs.YtjmcokcdaddpcaaGreatDoor
open Go.RowKit
theorem bcell {W w1 : World} (hb : Below W.heap.size W w1) : (∀ b o, b < W.heap.size → w1.cell? ⟨b, o, none⟩ = W.cell? ⟨b, o, none⟩) ∧ (∀ b o, b < W.heap.size → w1.frozen? ⟨b, o, none⟩ = W.frozen? ⟨b, o, none⟩) :=
  ⟨fun b o h => hb.cell (p := ⟨b, o, none⟩) h, fun b o h => hb.frozen (p := ⟨b, o, none⟩) h⟩
theorem below_alloc {w w1 : World} {o : Obj} (hb : Below (w.alloc o).heap.size (w.alloc o) w1) : Below w.heap.size w w1 :=
  ((Below.refl _ _).alloc (Nat.le_refl _) _).trans (hb.mono (by simp))
/-- The table of signs lies in memory. -/
def SignsIn (w : World) : Prop := 0 < w.heap.size ∧ w.cell? ⟨0, 0, none⟩ = some (.string ⟨#[45, 62, 42]⟩) ∧ w.cell? ⟨0, 1, none⟩ = some (.string ⟨#[45, 62, 60, 62]⟩) ∧ w.cell? ⟨0, 2, none⟩ = some (.string ⟨#[42, 45, 62]⟩) ∧ w.cell? ⟨0, 3, none⟩ = some (.string ⟨#[45, 62, 43]⟩) ∧ w.cell? ⟨0, 4, none⟩ = some (.string ⟨#[45, 62, 37]⟩)
theorem SignsIn.below {w w' : World} (h : SignsIn w) (hb : Below w.heap.size w w') : SignsIn w' := by
  obtain ⟨h0, c0, c1, c2, c3, c4⟩ := h
  exact ⟨Nat.lt_of_lt_of_le h0 hb.size, by rw [hb.cell h0, c0], by rw [hb.cell h0, c1], by rw [hb.cell h0, c2], by rw [hb.cell h0, c3], by rw [hb.cell h0, c4]⟩
theorem scanSign_in (s : ByteArray) (n : Nat) (w : World) (hs : s.size ≤ 400) (hn : n < s.size) (h : SignsIn w) :
    Calls Tryz.prog 145 #[.string s, .int .i64 n] w fun e w' => e = .returned (tokV (Dsr.scanSign (s.data.toList.drop n) n)) ∧ Below w.heap.size w w' := by
  obtain ⟨h0, c0, c1, c2, c3, c4⟩ := h
  exact scanSign_any s n w hs hn c0 c1 c2 c3 c4 h0
set_option maxRecDepth 100000 in
set_option maxHeartbeats 400000 in
theorem scan_any (s : ByteArray) (n : Nat) (w : World) (hs : s.size ≤ 400) (hn : n ≤ s.size) (hS : SignsIn w) :
    Calls Tryz.prog 98 #[.string s, .int .i64 n] w fun e w' => e = .returned (tokV (Dsr.scan s.data.toList n)) ∧ Below w.heap.size w w' := by
  have hn' : (n : Int) ≤ 400 := by omega
  go_enter Tryz.func98, Tryz.ntmps98
  go_wp2_with fail
  go_loop [5] (fun i => ∃ k : Nat, n ≤ k ∧ k ≤ s.size ∧ i = .int .i64 k ∧ k + Dsr.blankLen (s.data.toList.drop k) = n + Dsr.blankLen (s.data.toList.drop n)) (fun i => s.size - (intOf i).toNat)
  case atStart => exact ⟨n, Nat.le_refl _, hn, rfl, rfl⟩
  case round =>
    obtain ⟨k, hk1, hk2, rfl, hk3⟩ := hrel
    have H3 : Hid (k + Dsr.blankLen (s.data.toList.drop k) = n + Dsr.blankLen (s.data.toList.drop n)) := hk3
    clear hk3
    by_cases hlt : k < s.size
    · have HW : Hid (Dsr.blankLen (s.data.toList.drop k) = if Dsr.blank s[k] then Dsr.blankLen (s.data.toList.drop (k + 1)) + 1 else 0) := Dsr.blankLen_step (byte_some s k hlt)
      by_cases hl : Dsr.blank s[k] = true
      · go_wp2_with (go_at_call 142; refine (isBlank_any _ _).mono ?_; rintro e w' ⟨rfl, rfl⟩)
        go_round
        case rel => exact ⟨k + 1, by omega, by omega, by go_num, by have a := H3.out; have b := HW.out; simp [hl] at b; omega⟩
        case measure => simp [intOf]; omega
      · have hl' : Dsr.blank s[k] = false := by simpa using hl
        clear hl
        have hne : ((k : Int) == (s.size : Int)) = false := by simp; omega
        have hkn : k = n + Dsr.blankLen (s.data.toList.drop n) := by have a := H3.out; have b := HW.out; simp [hl'] at b; omega
        have HK : Hid (k = n + Dsr.blankLen (s.data.toList.drop n)) := hkn
        clear hkn
        have HS : Hid (SignsIn w) := hS
        clear hS
        have HL : Hid (s.data.toList.drop k = s[k] :: s.data.toList.drop (k + 1)) := by
          show _ = _
          rw [List.drop_eq_getElem_cons (by simpa using hlt)]; rfl
        by_cases ht : Dsr.letter s[k] = true
        · have HT : Hid (Dsr.scan s.data.toList n = Dsr.scanWord (s.data.toList.drop k) k) := by
            show _ = _
            rw [Dsr.scan, ← HK.out, HL.out, Dsr.scanAt, if_pos ht]
          go_wp2_with (first | (go_at_call 142; refine (isBlank_any _ _).mono ?_; rintro e w' ⟨rfl, rfl⟩) | (go_at_call 143; refine (isLetter_any _ _).mono ?_; rintro e w' ⟨rfl, rfl⟩))
          refine (scanWord_any _ _ _ hs hk2).mono ?_
          rintro e w1 ⟨rfl, hb⟩
          obtain ⟨hc, hf⟩ := bcell hb
          have hz : w.heap.size < w1.heap.size := by have := hb.size; simp at this; omega
          go_wp2_with fail
          exact bodyPost_ret (v := tokV (Dsr.scanWord (s.data.toList.drop k) k)) (by simp [results, Tryz.results98, go_sem, hz, hc]) rfl ⟨by rw [HT.out], by repeat (first | exact below_alloc hb | refine Below.setCell ?_ (by simp) _)⟩
        · have ht' : Dsr.letter s[k] = false := by simpa using ht
          clear ht
          have HT : Hid (Dsr.scan s.data.toList n = Dsr.scanSign (s.data.toList.drop k) k) := by
            show _ = _
            rw [Dsr.scan, ← HK.out, HL.out, Dsr.scanAt, if_neg (by rw [ht']; decide)]
          go_wp2_with (first | (go_at_call 142; refine (isBlank_any _ _).mono ?_; rintro e w' ⟨rfl, rfl⟩) | (go_at_call 143; refine (isLetter_any _ _).mono ?_; rintro e w' ⟨rfl, rfl⟩))
          refine (scanSign_in _ _ _ hs hlt (HS.out.below ((Below.refl _ _).alloc (Nat.le_refl _) _))).mono ?_
          rintro e w1 ⟨rfl, hb⟩
          obtain ⟨hc, hf⟩ := bcell hb
          have hz : w.heap.size < w1.heap.size := by have := hb.size; simp at this; omega
          go_wp2_with fail
          exact bodyPost_ret (v := tokV (Dsr.scanSign (s.data.toList.drop k) k)) (by simp [results, Tryz.results98, go_sem, hz, hc]) rfl ⟨by rw [HT.out], by repeat (first | exact below_alloc hb | refine Below.setCell ?_ (by simp) _)⟩
    · have hne : ((k : Int) == (s.size : Int)) = true := by simp; omega
      have hkn : k = n + Dsr.blankLen (s.data.toList.drop n) := by have a := H3.out; rw [Dsr.blankLen_end (by simp; omega)] at a; omega
      have HT : Hid (Dsr.scan s.data.toList n = ⟨10, 0, k, []⟩) := by
        show _ = _
        rw [Dsr.scan, ← hkn, List.drop_eq_nil_of_le (by simp; omega)]; rfl
      clear hkn
      go_wp2_with fail
      exact bodyPost_ret (v := tokV ⟨10, 0, k, []⟩) (by simp [results, Tryz.results98, go_sem]) rfl ⟨by rw [HT.out], (Below.refl _ _).alloc (Nat.le_refl _) _⟩
end Go.Proofs.YtjmcokcdaddpcaaGreatDoor
