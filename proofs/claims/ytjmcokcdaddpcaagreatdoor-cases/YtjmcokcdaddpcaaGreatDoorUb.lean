import Derived.Test.YtjmcokcdaddpcaaGreatDoorProg
import Derived.Test.YtjmcokcdaddpcaaGreatDoorUa
import Derived.WalkKit
import Derived.Lib.Strings
import Derived.KernelRfl
import Derived.Deep.AppendLies
import Derived.Deep.QuietTactic
import Derived.BigQuiet
import Derived.BigRegion
import Derived.Deep.RegionLaw
import Derived.Deep.RegionWith
import Derived.Deep.RegionHeldLaw
set_option linter.unusedVariables false
set_option linter.unusedSimpArgs false
namespace Go.Proofs.YtjmcokcdaddpcaaGreatDoor
theorem ret_bool {a b : Bool} (h : a = b) : Ending.returned (.bool a) = .returned (.bool b) := by rw [h]
theorem ret_int {k : IntKind} {a b : Int} (h : a = b) : Ending.returned (.int k a) = .returned (.int k b) := by rw [h]
set_option maxHeartbeats 400000 in
theorem isBlank_any (c : UInt8) (w : World) : Calls Tryz.prog 142 #[.int .u8 c.toNat] w fun e w' => e = .returned (.bool (Dsr.blank c)) ∧ w' = w := by
  go_enter Tryz.func142, Tryz.ntmps142
  go_wp2
  all_goals
    go_ret
    refine ⟨ret_bool ?_, rfl⟩
    unfold Dsr.blank
    rw [Bool.eq_iff_iff]; simp; try omega
set_option maxHeartbeats 400000 in
theorem isLetter_any (c : UInt8) (w : World) : Calls Tryz.prog 143 #[.int .u8 c.toNat] w fun e w' => e = .returned (.bool (Dsr.letter c)) ∧ w' = w := by
  go_enter Tryz.func143, Tryz.ntmps143
  go_wp2
  all_goals
    go_ret
    refine ⟨ret_bool ?_, rfl⟩
    unfold Dsr.letter
    rw [Bool.eq_iff_iff]; simp; try omega
set_option maxHeartbeats 400000 in
theorem isDigit_any (c : UInt8) (w : World) : Calls Tryz.prog 180 #[.int .u8 c.toNat] w fun e w' => e = .returned (.bool (Dsr.digit c)) ∧ w' = w := by
  go_enter Tryz.func180, Tryz.ntmps180
  go_wp2
  all_goals
    go_ret
    refine ⟨ret_bool ?_, rfl⟩
    unfold Dsr.digit
    rw [Bool.eq_iff_iff]; simp; try omega
set_option maxHeartbeats 400000 in
theorem wordKind_any (s : ByteArray) (w : World) : Calls Tryz.prog 181 #[.string s] w fun e w' => e = .returned (.int .u8 (Dsr.wordKind s.toList)) ∧ w' = w := by
  go_enter Tryz.func181, Tryz.ntmps181
  go_wp2
  all_goals
    go_ret
    refine ⟨ret_int ?_, rfl⟩
    simp only [Dsr.wordKind, *]; rfl
theorem isPrefix_yes (s p : ByteArray) (_h : p.size ≤ s.size) : ((s.extract 0 p.size).toList == p.toList) = p.data.toList.isPrefixOf s.data.toList := by
  rw [Bool.eq_iff_iff, List.isPrefixOf_iff_prefix, List.prefix_iff_eq_take, beq_iff_eq, Lib.extract_toList, Lib.toList_data]
  simp only [List.drop_zero, Nat.sub_zero]
  have : p.data.toList.length = p.size := by simp
  rw [this]; exact eq_comm
theorem isPrefix_no (s p : ByteArray) (h : ¬ p.size ≤ s.size) : false = p.data.toList.isPrefixOf s.data.toList := by
  symm; rw [Bool.eq_false_iff, ne_eq, List.isPrefixOf_iff_prefix]
  intro hp; have := hp.length_le; simp at this; exact h this
set_option maxHeartbeats 400000 in
theorem hasPrefix_any (s p : ByteArray) (w : World) : Calls Tryz.prog 182 #[.string s, .string p] w fun e w' => e = .returned (.bool (p.data.toList.isPrefixOf s.data.toList)) ∧ w' = w := by
  go_enter Tryz.func182, Tryz.ntmps182
  go_wp2
  · go_ret
    exact ⟨ret_bool (isPrefix_yes _ _ ‹_›), rfl⟩
  · go_ret
    exact ⟨ret_bool (isPrefix_no _ _ ‹_›), rfl⟩
end Go.Proofs.YtjmcokcdaddpcaaGreatDoor
set_option linter.unusedVariables false
set_option linter.unusedSimpArgs false
namespace Go.Proofs.YtjmcokcdaddpcaaGreatDoor
open Go.RowKit
/-- A token as a value. -/
abbrev tokV (t : Dsr.Tok) : Value := .agg #[.int .u8 t.kind, .int .u8 t.rule, .int .i64 t.at_, .string ⟨t.text.toArray⟩]
theorem byte_some (s : ByteArray) (k : Nat) (h : k < s.size) : s.data.toList[k]? = some s[k] := by
  rw [List.getElem?_eq_getElem (by simpa using h)]; rfl
theorem scanWord_tok (s : ByteArray) (n k : Nat) (h : k = n + Dsr.wordLen (s.data.toList.drop n)) :
    Ending.returned (.agg #[.int .u8 (Dsr.wordKind (s.extract n k).toList), .int .u8 0, .int .i64 n, .string (s.extract n k)]) = .returned (tokV (Dsr.scanWord (s.data.toList.drop n) n)) := by
  have e : s.extract n k = ⟨((s.data.toList.drop n).take (Dsr.wordLen (s.data.toList.drop n))).toArray⟩ := by
    rw [Lib.extract_eq, h, Nat.add_sub_cancel_left]
  rw [e, ByteArray.toList_mk]; rfl
set_option maxHeartbeats 400000 in
theorem scanWord_any (s : ByteArray) (n : Nat) (w : World) (hs : s.size ≤ 400) (hn : n ≤ s.size) :
    Calls Tryz.prog 144 #[.string s, .int .i64 n] w fun e w' => e = .returned (tokV (Dsr.scanWord (s.data.toList.drop n) n)) ∧ Below w.heap.size w w' := by
  have hn' : (n : Int) ≤ 400 := by omega
  go_enter Tryz.func144, Tryz.ntmps144
  go_wp2_with fail
  go_loop [5] (fun i => ∃ k : Nat, n ≤ k ∧ k ≤ s.size ∧ i = .int .i64 k ∧ k + Dsr.wordLen (s.data.toList.drop k) = n + Dsr.wordLen (s.data.toList.drop n)) (fun i => s.size - (intOf i).toNat)
  case atStart => exact ⟨n, Nat.le_refl _, hn, rfl, rfl⟩
  case round =>
    obtain ⟨k, hk1, hk2, rfl, hk3⟩ := hrel
    have H3 : Hid (k + Dsr.wordLen (s.data.toList.drop k) = n + Dsr.wordLen (s.data.toList.drop n)) := hk3
    clear hk3
    by_cases hlt : k < s.size
    · have HW : Hid (Dsr.wordLen (s.data.toList.drop k) = if Dsr.wordy s[k] then Dsr.wordLen (s.data.toList.drop (k + 1)) + 1 else 0) := Dsr.wordLen_step (byte_some s k hlt)
      by_cases hl : Dsr.letter s[k] = true
      · go_wp2_with (go_at_call 143; refine (isLetter_any _ _).mono ?_; rintro e w' ⟨rfl, rfl⟩)
        go_round
        case rel => exact ⟨k + 1, by omega, by omega, by go_num, by have a := H3.out; have b := HW.out; simp [Dsr.wordy, hl] at b; omega⟩
        case measure => simp [intOf]; omega
      · have hl' : Dsr.letter s[k] = false := by simpa using hl
        clear hl
        by_cases hd : Dsr.digit s[k] = true
        · go_wp2_with (first | (go_at_call 143; refine (isLetter_any _ _).mono ?_; rintro e w' ⟨rfl, rfl⟩) | (go_at_call 180; refine (isDigit_any _ _).mono ?_; rintro e w' ⟨rfl, rfl⟩))
          go_round
          case rel => exact ⟨k + 1, by omega, by omega, by go_num, by have a := H3.out; have b := HW.out; simp [Dsr.wordy, hl', hd] at b; omega⟩
          case measure => simp [intOf]; omega
        · have hd' : Dsr.digit s[k] = false := by simpa using hd
          clear hd
          go_wp2_with (first | (go_at_call 143; refine (isLetter_any _ _).mono ?_; rintro e w' ⟨rfl, rfl⟩) | (go_at_call 180; refine (isDigit_any _ _).mono ?_; rintro e w' ⟨rfl, rfl⟩) | (go_at_call 181; refine (wordKind_any _ _).mono ?_; rintro e w' ⟨rfl, rfl⟩))
          have b := HW.out
          simp [Dsr.wordy, hl', hd'] at b
          have hkn : k = n + Dsr.wordLen (s.data.toList.drop n) := by have a := H3.out; omega
          exact bodyPost_ret (v := .agg #[.int .u8 (Dsr.wordKind (s.extract n k).toList), .int .u8 0, .int .i64 n, .string (s.extract n k)]) (by simp [results, Tryz.results144, go_sem]) rfl ⟨scanWord_tok s n k hkn, (Below.refl _ _).alloc (Nat.le_refl _) _⟩
    · have hkn : k = n + Dsr.wordLen (s.data.toList.drop n) := by have a := H3.out; rw [Dsr.wordLen_end (by simp; omega)] at a; omega
      have HK : Hid (k = n + Dsr.wordLen (s.data.toList.drop n)) := hkn
      clear hkn
      go_wp2_with (first | (go_at_call 181; refine (wordKind_any _ _).mono ?_; rintro e w' ⟨rfl, rfl⟩))
      exact bodyPost_ret (v := .agg #[.int .u8 (Dsr.wordKind (s.extract n k).toList), .int .u8 0, .int .i64 n, .string (s.extract n k)]) (by simp [results, Tryz.results144, go_sem]) rfl ⟨scanWord_tok s n k HK.out, (Below.refl _ _).alloc (Nat.le_refl _) _⟩
end Go.Proofs.YtjmcokcdaddpcaaGreatDoor
set_option linter.unusedVariables false
set_option linter.unusedSimpArgs false
namespace Go.Proofs.YtjmcokcdaddpcaaGreatDoor
open Go.RowKit
/-- The table of signs, as it lies in memory. -/
abbrev signsV : Value := .agg #[.string ⟨#[45, 62, 42]⟩, .string ⟨#[45, 62, 60, 62]⟩, .string ⟨#[42, 45, 62]⟩, .string ⟨#[45, 62, 43]⟩, .string ⟨#[45, 62, 37]⟩]
theorem hasPrefix_sign (s : ByteArray) (n : Nat) (p : ByteArray) (b : Bool) (w : World) (hs : s.size ≤ 400) (hb : p.data.toList.isPrefixOf (s.data.toList.drop n) = b) :
    Calls Tryz.prog 182 #[.string (s.extract n s.size), .string p] w fun e w' => e = .returned (.bool b) ∧ w' = w := by
  refine (hasPrefix_any _ _ _).mono ?_
  rintro e w' ⟨rfl, rfl⟩
  refine ⟨ret_bool ?_, rfl⟩
  rw [Lib.extract_data, ← hb]
  congr 1
  rw [List.take_of_length_le]; simp
theorem slice_one (s : ByteArray) (n : Nat) (h : n + 1 ≤ s.size) (w : World) :
    (Instr.slice 9 (.string s) (some (.int .i64 n)) (some (.int .i64 ((n : Int) + 1))) none).run Tryz.prog w = .ok (.string (s.extract n (n + 1))) w := by
  have a : (0 : Int) ≤ (n : Int) + 1 ∧ (n : Int) + 1 ≤ (s.size : Int) := by omega
  have b : ((n : Int) + 1).toNat = n + 1 := by omega
  simp [Instr.slice, Instr.sliceBounds, Instr.sliceBound, asIntOf, run_underlying Tryz.underlying9, a, b, go_sem]
theorem oneKind_ret (s : ByteArray) (n : Nat) (l : List UInt8) (hl : l = (s.data.toList.drop n).take 1) (h5 : 5 ≤ Dsr.signOf (s.data.toList.drop n)) (k : Nat) (hk : k = Dsr.oneKind l) :
    Ending.returned (.agg #[.int .u8 k, .int .u8 0, .int .i64 n, .string ⟨l.toArray⟩]) = .returned (tokV (Dsr.scanSign (s.data.toList.drop n) n)) := by
  subst hl hk
  have h6 := Dsr.signOf_le (s.data.toList.drop n)
  rw [Dsr.scanSign, if_neg (by omega)]; rfl
set_option maxRecDepth 100000 in
set_option maxHeartbeats 400000 in
theorem scanSign_any (s : ByteArray) (n : Nat) (w : World) (hs : s.size ≤ 400) (hn : n < s.size)
    (c0 : w.cell? ⟨0, 0, none⟩ = some (.string ⟨#[45, 62, 42]⟩)) (c1 : w.cell? ⟨0, 1, none⟩ = some (.string ⟨#[45, 62, 60, 62]⟩)) (c2 : w.cell? ⟨0, 2, none⟩ = some (.string ⟨#[42, 45, 62]⟩)) (c3 : w.cell? ⟨0, 3, none⟩ = some (.string ⟨#[45, 62, 43]⟩)) (c4 : w.cell? ⟨0, 4, none⟩ = some (.string ⟨#[45, 62, 37]⟩)) (hz : 0 < w.heap.size) :
    Calls Tryz.prog 145 #[.string s, .int .i64 n] w fun e w' => e = .returned (tokV (Dsr.scanSign (s.data.toList.drop n) n)) ∧ Below w.heap.size w w' := by
  have hn' : (n : Int) < 400 := by omega
  have hn1 : (n : Int) + 1 ≤ (s.size : Int) := by omega
  have hn2 : n + 1 ≤ s.size := by omega
  have i0 : ∀ w : World, (Instr.index 210 signsV (.int .i64 0)).run Tryz.prog w = .ok (.string ⟨#[45, 62, 42]⟩) w := fun _ => by kernel_rfl
  have i1 : ∀ w : World, (Instr.index 210 signsV (.int .i64 1)).run Tryz.prog w = .ok (.string ⟨#[45, 62, 60, 62]⟩) w := fun _ => by kernel_rfl
  have i2 : ∀ w : World, (Instr.index 210 signsV (.int .i64 2)).run Tryz.prog w = .ok (.string ⟨#[42, 45, 62]⟩) w := fun _ => by kernel_rfl
  have i3 : ∀ w : World, (Instr.index 210 signsV (.int .i64 3)).run Tryz.prog w = .ok (.string ⟨#[45, 62, 43]⟩) w := fun _ => by kernel_rfl
  have i4 : ∀ w : World, (Instr.index 210 signsV (.int .i64 4)).run Tryz.prog w = .ok (.string ⟨#[45, 62, 37]⟩) w := fun _ => by kernel_rfl
  go_enter Tryz.func145, Tryz.ntmps145
  go_wp2_with fail
  go_loop [9] (fun i => ∃ k : Nat, k ≤ 5 ∧ i = .int .i64 k ∧ k ≤ Dsr.signOf (s.data.toList.drop n)) (fun i => 5 - (intOf i).toNat)
  case atStart => exact ⟨0, by omega, rfl, Nat.zero_le _⟩
  case round =>
    obtain ⟨k, hk1, rfl, hk2⟩ := hrel
    have HK : Hid (k ≤ Dsr.signOf (s.data.toList.drop n)) := hk2
    clear hk2
    by_cases hk : k < 5
    · rcases hb : (Dsr.signs.getD k []).isPrefixOf (s.data.toList.drop n) with _ | _
      · have HB : Hid ((Dsr.signs.getD k []).isPrefixOf (s.data.toList.drop n) = false) := hb
        clear hb
        rcases k with _ | _ | _ | _ | _ | k
        all_goals first
          | omega
          | (go_wp2_with (go_at_call 182; refine (hasPrefix_sign s n _ false _ hs HB.out).mono ?_; rintro e w' ⟨rfl, rfl⟩)
             go_round
             case rel => exact ⟨_, by omega, by go_num, Dsr.signOf_next _ _ HK.out (by omega) HB.out⟩
             case measure => simp [intOf])
      · have HB : Hid ((Dsr.signs.getD k []).isPrefixOf (s.data.toList.drop n) = true) := hb
        clear hb
        rcases k with _ | _ | _ | _ | _ | k
        all_goals first
          | omega
          | (go_wp2_with (go_at_call 182; refine (hasPrefix_sign s n _ true _ hs HB.out).mono ?_; rintro e w' ⟨rfl, rfl⟩)
             have hh := Dsr.signOf_here _ _ HK.out (by omega) HB.out
             refine bodyPost_ret (v := tokV (Dsr.scanSign (s.data.toList.drop n) n)) ?_ rfl ⟨rfl, (Below.refl _ _).alloc (Nat.le_refl _) _⟩
             simp [Dsr.scanSign, hh, Dsr.signs]
             simp [results, Tryz.results145, go_sem])
    · have hk5 : k = 5 := by omega
      subst hk5
      clear hk1 hk
      have e1 : s.extract n (n + 1) = ⟨((s.data.toList.drop n).take 1).toArray⟩ := by rw [Lib.extract_eq, Nat.add_sub_cancel_left]
      have hsl : ∀ w : World, (Instr.slice 9 (.string s) (some (.int .i64 n)) (some (.int .i64 ((n : Int) + 1))) none).run Tryz.prog w = .ok (.string ⟨((s.data.toList.drop n).take 1).toArray⟩) w := fun w => by rw [slice_one s n hn2 w, e1]
      clear e1
      generalize hL : (s.data.toList.drop n).take 1 = L at hsl
      have HL := hL.symm
      have HL' : Hid (L = (s.data.toList.drop n).take 1) := HL
      clear hL HL
      go_wp2_with fail
      · exact bodyPost_ret (v := .agg #[.int .u8 ((7 : Nat) : Int), .int .u8 0, .int .i64 n, .string ⟨L.toArray⟩]) (by simp [results, Tryz.results145, go_sem]) rfl ⟨oneKind_ret s n L HL'.out HK.out 7 (by simp only [Dsr.oneKind, *]; rfl), by repeat (first | exact Below.refl _ _ | refine Below.alloc ?_ (by simp) _ | refine Below.setCell ?_ (by simp) _)⟩
      · exact bodyPost_ret (v := .agg #[.int .u8 ((8 : Nat) : Int), .int .u8 0, .int .i64 n, .string ⟨L.toArray⟩]) (by simp [results, Tryz.results145, go_sem]) rfl ⟨oneKind_ret s n L HL'.out HK.out 8 (by simp only [Dsr.oneKind, *]; rfl), by repeat (first | exact Below.refl _ _ | refine Below.alloc ?_ (by simp) _ | refine Below.setCell ?_ (by simp) _)⟩
      · exact bodyPost_ret (v := .agg #[.int .u8 ((0 : Nat) : Int), .int .u8 0, .int .i64 n, .string ⟨L.toArray⟩]) (by simp [results, Tryz.results145, go_sem]) rfl ⟨oneKind_ret s n L HL'.out HK.out 0 (by simp only [Dsr.oneKind, *]; rfl), by repeat (first | exact Below.refl _ _ | refine Below.alloc ?_ (by simp) _ | refine Below.setCell ?_ (by simp) _)⟩
end Go.Proofs.YtjmcokcdaddpcaaGreatDoor
set_option linter.unusedVariables false
set_option linter.unusedSimpArgs false
namespace Go.Proofs.YtjmcokcdaddpcaaGreatDoor
open Go.RowKit
theorem bcell {W w1 : World} (hb : Below W.heap.size W w1) : (∀ b o, b < W.heap.size → w1.cell? ⟨b, o, none⟩ = W.cell? ⟨b, o, none⟩) ∧ (∀ b o, b < W.heap.size → w1.frozen? ⟨b, o, none⟩ = W.frozen? ⟨b, o, none⟩) :=
  ⟨fun b o h => hb.cell (p := ⟨b, o, none⟩) h, fun b o h => hb.frozen (p := ⟨b, o, none⟩) h⟩
theorem below_alloc {w w1 : World} {o : Obj} (hb : Below (w.alloc o).heap.size (w.alloc o) w1) : Below w.heap.size w w1 :=
  ((Below.refl _ _).alloc (Nat.le_refl _) _).trans (hb.mono (by simp))
/-- The table of signs lies in memory. -/
def SignsIn (w : World) : Prop := 0 < w.heap.size ∧ w.cell? ⟨0, 0, none⟩ = some (.string ⟨#[45, 62, 42]⟩) ∧ w.cell? ⟨0, 1, none⟩ = some (.string ⟨#[45, 62, 60, 62]⟩) ∧ w.cell? ⟨0, 2, none⟩ = some (.string ⟨#[42, 45, 62]⟩) ∧ w.cell? ⟨0, 3, none⟩ = some (.string ⟨#[45, 62, 43]⟩) ∧ w.cell? ⟨0, 4, none⟩ = some (.string ⟨#[45, 62, 37]⟩)
theorem SignsIn.below {w w' : World} (h : SignsIn w) (hb : Below w.heap.size w w') : SignsIn w' := by
  obtain ⟨h0, c0, c1, c2, c3, c4⟩ := h
  exact ⟨Nat.lt_of_lt_of_le h0 hb.size, by rw [hb.cell h0, c0], by rw [hb.cell h0, c1], by rw [hb.cell h0, c2], by rw [hb.cell h0, c3], by rw [hb.cell h0, c4]⟩
theorem scanSign_in (s : ByteArray) (n : Nat) (w : World) (hs : s.size ≤ 400) (hn : n < s.size) (h : SignsIn w) :
    Calls Tryz.prog 145 #[.string s, .int .i64 n] w fun e w' => e = .returned (tokV (Dsr.scanSign (s.data.toList.drop n) n)) ∧ Below w.heap.size w w' := by
  obtain ⟨h0, c0, c1, c2, c3, c4⟩ := h
  exact scanSign_any s n w hs hn c0 c1 c2 c3 c4 h0
set_option maxRecDepth 100000 in
set_option maxHeartbeats 400000 in
theorem scan_any (s : ByteArray) (n : Nat) (w : World) (hs : s.size ≤ 400) (hn : n ≤ s.size) (hS : SignsIn w) :
    Calls Tryz.prog 98 #[.string s, .int .i64 n] w fun e w' => e = .returned (tokV (Dsr.scan s.data.toList n)) ∧ Below w.heap.size w w' := by
  have hn' : (n : Int) ≤ 400 := by omega
  go_enter Tryz.func98, Tryz.ntmps98
  go_wp2_with fail
  go_loop [5] (fun i => ∃ k : Nat, n ≤ k ∧ k ≤ s.size ∧ i = .int .i64 k ∧ k + Dsr.blankLen (s.data.toList.drop k) = n + Dsr.blankLen (s.data.toList.drop n)) (fun i => s.size - (intOf i).toNat)
  case atStart => exact ⟨n, Nat.le_refl _, hn, rfl, rfl⟩
  case round =>
    obtain ⟨k, hk1, hk2, rfl, hk3⟩ := hrel
    have H3 : Hid (k + Dsr.blankLen (s.data.toList.drop k) = n + Dsr.blankLen (s.data.toList.drop n)) := hk3
    clear hk3
    by_cases hlt : k < s.size
    · have HW : Hid (Dsr.blankLen (s.data.toList.drop k) = if Dsr.blank s[k] then Dsr.blankLen (s.data.toList.drop (k + 1)) + 1 else 0) := Dsr.blankLen_step (byte_some s k hlt)
      by_cases hl : Dsr.blank s[k] = true
      · go_wp2_with (go_at_call 142; refine (isBlank_any _ _).mono ?_; rintro e w' ⟨rfl, rfl⟩)
        go_round
        case rel => exact ⟨k + 1, by omega, by omega, by go_num, by have a := H3.out; have b := HW.out; simp [hl] at b; omega⟩
        case measure => simp [intOf]; omega
      · have hl' : Dsr.blank s[k] = false := by simpa using hl
        clear hl
        have hne : ((k : Int) == (s.size : Int)) = false := by simp; omega
        have hkn : k = n + Dsr.blankLen (s.data.toList.drop n) := by have a := H3.out; have b := HW.out; simp [hl'] at b; omega
        have HK : Hid (k = n + Dsr.blankLen (s.data.toList.drop n)) := hkn
        clear hkn
        have HS : Hid (SignsIn w) := hS
        clear hS
        have HL : Hid (s.data.toList.drop k = s[k] :: s.data.toList.drop (k + 1)) := by
          show _ = _
          rw [List.drop_eq_getElem_cons (by simpa using hlt)]; rfl
        by_cases ht : Dsr.letter s[k] = true
        · have HT : Hid (Dsr.scan s.data.toList n = Dsr.scanWord (s.data.toList.drop k) k) := by
            show _ = _
            rw [Dsr.scan, ← HK.out, HL.out, Dsr.scanAt, if_pos ht]
          go_wp2_with (first | (go_at_call 142; refine (isBlank_any _ _).mono ?_; rintro e w' ⟨rfl, rfl⟩) | (go_at_call 143; refine (isLetter_any _ _).mono ?_; rintro e w' ⟨rfl, rfl⟩))
          refine (scanWord_any _ _ _ hs hk2).mono ?_
          rintro e w1 ⟨rfl, hb⟩
          obtain ⟨hc, hf⟩ := bcell hb
          have hz : w.heap.size < w1.heap.size := by have := hb.size; simp at this; omega
          go_wp2_with fail
          exact bodyPost_ret (v := tokV (Dsr.scanWord (s.data.toList.drop k) k)) (by simp [results, Tryz.results98, go_sem, hz, hc]) rfl ⟨by rw [HT.out], by repeat (first | exact below_alloc hb | refine Below.setCell ?_ (by simp) _)⟩
        · have ht' : Dsr.letter s[k] = false := by simpa using ht
          clear ht
          have HT : Hid (Dsr.scan s.data.toList n = Dsr.scanSign (s.data.toList.drop k) k) := by
            show _ = _
            rw [Dsr.scan, ← HK.out, HL.out, Dsr.scanAt, if_neg (by rw [ht']; decide)]
          go_wp2_with (first | (go_at_call 142; refine (isBlank_any _ _).mono ?_; rintro e w' ⟨rfl, rfl⟩) | (go_at_call 143; refine (isLetter_any _ _).mono ?_; rintro e w' ⟨rfl, rfl⟩))
          refine (scanSign_in _ _ _ hs hlt (HS.out.below ((Below.refl _ _).alloc (Nat.le_refl _) _))).mono ?_
          rintro e w1 ⟨rfl, hb⟩
          obtain ⟨hc, hf⟩ := bcell hb
          have hz : w.heap.size < w1.heap.size := by have := hb.size; simp at this; omega
          go_wp2_with fail
          exact bodyPost_ret (v := tokV (Dsr.scanSign (s.data.toList.drop k) k)) (by simp [results, Tryz.results98, go_sem, hz, hc]) rfl ⟨by rw [HT.out], by repeat (first | exact below_alloc hb | refine Below.setCell ?_ (by simp) _)⟩
    · have hne : ((k : Int) == (s.size : Int)) = true := by simp; omega
      have hkn : k = n + Dsr.blankLen (s.data.toList.drop n) := by have a := H3.out; rw [Dsr.blankLen_end (by simp; omega)] at a; omega
      have HT : Hid (Dsr.scan s.data.toList n = ⟨10, 0, k, []⟩) := by
        show _ = _
        rw [Dsr.scan, ← hkn, List.drop_eq_nil_of_le (by simp; omega)]; rfl
      clear hkn
      go_wp2_with fail
      exact bodyPost_ret (v := tokV ⟨10, 0, k, []⟩) (by simp [results, Tryz.results98, go_sem]) rfl ⟨by rw [HT.out], (Below.refl _ _).alloc (Nat.le_refl _) _⟩
end Go.Proofs.YtjmcokcdaddpcaaGreatDoor
set_option linter.unusedVariables false
set_option linter.unusedSimpArgs false
namespace Go.Proofs.YtjmcokcdaddpcaaGreatDoor
open Go.RowKit
/-- What may have turned: the blocks of S, and new ones. -/
structure Kp (S : Nat → Prop) (w w' : World) : Prop where
  os : w'.os = w.os
  tape : w'.tape = w.tape
  output : w'.output = w.output
  size : w.heap.size ≤ w'.heap.size
  block : ∀ k, k < w.heap.size → ¬ S k → w'.heap[k]? = w.heap[k]?
theorem Kp.refl (S : Nat → Prop) (w : World) : Kp S w w := ⟨rfl, rfl, rfl, Nat.le_refl _, fun _ _ _ => rfl⟩
theorem Kp.trans {S S' : Nat → Prop} {w w1 w2 : World} (h : Kp S w w1) (h' : Kp S' w1 w2) (hs : ∀ k, S' k → S k ∨ w.heap.size ≤ k) : Kp S w w2 :=
  ⟨h'.os.trans h.os, h'.tape.trans h.tape, h'.output.trans h.output, Nat.le_trans h.size h'.size, fun k hk hn =>
    (h'.block k (Nat.lt_of_lt_of_le hk h.size) (fun hc => by rcases hs k hc with h1 | h1; exact hn h1; omega)).trans (h.block k hk hn)⟩
theorem Kp.mono {S S' : Nat → Prop} {w w1 : World} (h : Kp S w w1) (hs : ∀ k, S k → S' k ∨ w.heap.size ≤ k) : Kp S' w w1 :=
  ⟨h.os, h.tape, h.output, h.size, fun k hk hn => h.block k hk (fun hc => by rcases hs k hc with h1 | h1; exact hn h1; omega)⟩
theorem Kp.drew {S : Nat → Prop} {w w1 : World} (h : Kp S w w1) : Kp S w w1.drew := ⟨h.os, h.tape, h.output, h.size, h.block⟩
theorem Kp.drewN {S : Nat → Prop} {w w1 : World} (h : Kp S w w1) (n : Nat) : Kp S w (w1.drewN n) := ⟨h.os, h.tape, h.output, h.size, h.block⟩
theorem Kp.alloc {S : Nat → Prop} {w w1 : World} (h : Kp S w w1) (o : Obj) : Kp S w (w1.alloc o) :=
  h.trans (S' := fun _ => False) ⟨rfl, rfl, rfl, by simp, fun k hk _ => Below.heap_alloc _ _ _ hk⟩ (fun _ h => h.elim)
theorem Kp.setCell {S : Nat → Prop} {w w1 : World} (h : Kp S w w1) {a : Addr} (ha : S a.block ∨ w.heap.size ≤ a.block) (v : Value) : Kp S w (w1.setCell a v) :=
  h.trans (S' := fun k => k = a.block) ⟨rfl, rfl, rfl, by simp [World.setCell], fun k hk hn => Below.heap_setCell _ _ _ _ hn⟩ (fun k hk => by subst hk; exact ha)
theorem Kp.grown {S : Nat → Prop} {w w1 w2 : World} {row : Option Nat} (h : Kp S w w1) (hg : w1.grownBy w2 row) (hr : ∀ k, row = some k → S k ∨ w.heap.size ≤ k) : Kp S w w2 :=
  h.trans (S' := fun k => row = some k) ⟨hg.os, hg.tape, hg.output, hg.size, fun k hk hn => hg.block k hk (fun e => hn e.symm)⟩ hr
theorem Kp.ofBelow {S : Nat → Prop} {w w1 w2 : World} (h : Kp S w w1) (hb : Below w1.heap.size w1 w2) : Kp S w w2 :=
  h.trans (S' := fun _ => False) ⟨hb.os, hb.tape, hb.output, hb.size, fun k hk _ => hb.block k hk⟩ (fun _ h => h.elim)
theorem Kp.below {S : Nat → Prop} {w w1 : World} {B : Nat} (h : Kp S w w1) (hB : B ≤ w.heap.size) (hS : ∀ k, S k → B ≤ k) : Below B w w1 :=
  ⟨h.os, h.tape, h.output, h.size, fun k hk => h.block k (by omega) (fun hc => by have := hS k hc; omega)⟩
theorem Kp.cell {S : Nat → Prop} {w w1 : World} (h : Kp S w w1) {a : Addr} (ha : a.block < w.heap.size) (hn : ¬ S a.block) : w1.cell? a = w.cell? a := World.cell?_of_block (h.block _ ha hn)
theorem Kp.frozen {S : Nat → Prop} {w w1 : World} (h : Kp S w w1) {a : Addr} (ha : a.block < w.heap.size) (hn : ¬ S a.block) : w1.frozen? a = w.frozen? a := World.frozen?_of_block (h.block _ ha hn)
theorem SignsIn.kp {S : Nat → Prop} {w w' : World} (h : SignsIn w) (hk : Kp S w w') (hS : ¬ S 0) : SignsIn w' := by
  obtain ⟨h0, c0, c1, c2, c3, c4⟩ := h
  exact ⟨Nat.lt_of_lt_of_le h0 hk.size, by rw [hk.cell h0 hS, c0], by rw [hk.cell h0 hS, c1], by rw [hk.cell h0 hS, c2], by rw [hk.cell h0 hS, c3], by rw [hk.cell h0 hS, c4]⟩
theorem ownsRow_of_block {w w' : World} {base : Nat} {e : TypeId} {size : Nat} {v : Value} {n : Nat} {xs : List Value} (h : w.ownsRow base e size v n xs) (hb : ∀ k, k < w.heap.size → v.ownBlock = some k → w'.heap[k]? = w.heap[k]?) : w'.ownsRow base e size v n xs := by
  refine ⟨h.1, ?_⟩
  rcases h.2 with hn | ⟨g, cap, cur, rfl, hbg, hgg, rest⟩
  · exact .inl hn
  · exact .inr ⟨g, cap, cur, rfl, hbg, by rw [hb g (Array.getElem?_eq_some_iff.1 hgg).1 rfl]; exact hgg, rest⟩
abbrev strV (l : List UInt8) : Value := .string ⟨l.toArray⟩
/-- The cells of a use, an event, a rule. -/
def usC (u : Dsr.Us) : List Value := [.int .u8 u.as_, .int .i64 u.event, strV u.name, .int .i64 u.at_]
def rlC (r : Dsr.Rl) : List Value := [strV r.left, strV r.right, .int .u8 r.kind]
def evC (e : Dsr.Ev) (v : Value) : List Value := [strV e.name, v, .bool e.done, .bool e.inn, .bool e.due]
def evCells : List Dsr.Ev → List Value → List Value
  | e :: es, v :: vs => evC e v ++ evCells es vs
  | _, _ => []
/-- The slices that a reader holds. -/
structure St where
  ve : Value
  vr : Value
  vu : Value
  rv : List Value
def Mine (b : Nat) (s : St) (k : Nat) : Prop := k = b ∨ s.ve.ownBlock = some k ∨ s.vr.ownBlock = some k ∨ s.vu.ownBlock = some k
abbrev rdCells (t : ByteArray) (r : Dsr.Rd) (s : St) : Array Value :=
  #[.string t, .int .u8 r.now.kind, .int .u8 r.now.rule, .int .i64 r.now.at_, strV r.now.text, s.ve, s.vr, s.vu, .int .i64 r.fErr, .int .i64 r.fAt]
def Differ (x y : Option Nat) : Prop := x = none ∨ x ≠ y
structure RdAt (B b : Nat) (w : World) (t : ByteArray) (r : Dsr.Rd) (s : St) : Prop where
  pos : 0 < B
  low : B ≤ b
  blk : w.heap[b]? = some (.cells (rdCells t r s) 138 (0, 0))
  evs : w.ownsRow B 144 5 s.ve r.events.length (evCells r.events s.rv)
  rls : w.ownsRow B 150 3 s.vr r.rules.length (r.rules.flatMap rlC)
  uss : w.ownsRow B 199 4 s.vu r.uses.length (r.uses.flatMap usC)
  len : s.rv.length = r.events.length
  rol : ∀ (i : Nat) (e : Dsr.Ev) (v : Value), r.events[i]? = some e → s.rv[i]? = some v → w.ownsRow B 9 1 v e.roles.length (e.roles.map strV)
  apart : (some b :: s.ve.ownBlock :: s.vr.ownBlock :: s.vu.ownBlock :: s.rv.map Value.ownBlock).Pairwise Differ
theorem RdAt.lt {B b : Nat} {w : World} {t : ByteArray} {r : Dsr.Rd} {s : St} (h : RdAt B b w t r s) : b < w.heap.size := (Array.getElem?_eq_some_iff.1 h.blk).1
theorem RdAt.mine {B b : Nat} {w : World} {t : ByteArray} {r : Dsr.Rd} {s : St} (h : RdAt B b w t r s) {k : Nat} (hk : Mine b s k) : B ≤ k ∧ k < w.heap.size := by
  rcases hk with rfl | hk | hk | hk
  · exact ⟨h.low, h.lt⟩
  · exact h.evs.lt k hk
  · exact h.rls.lt k hk
  · exact h.uss.lt k hk
theorem RdAt.rvOwn {B b : Nat} {w : World} {t : ByteArray} {r : Dsr.Rd} {s : St} (h : RdAt B b w t r s) {v : Value} (hv : v ∈ s.rv) {k : Nat} (hk : v.ownBlock = some k) : B ≤ k ∧ k < w.heap.size := by
  obtain ⟨i, hi, rfl⟩ := List.getElem_of_mem hv
  have hie : i < r.events.length := by rw [← h.len]; exact hi
  exact (h.rol i r.events[i] s.rv[i] (List.getElem?_eq_getElem hie) (List.getElem?_eq_getElem hi)).lt k hk
/-- The reader is as it was where its blocks are. -/
theorem RdAt.same {B b : Nat} {w w' : World} {t : ByteArray} {r : Dsr.Rd} {s : St} (h : RdAt B b w t r s)
    (hk : ∀ k, k < w.heap.size → B ≤ k → (Mine b s k ∨ ∃ v ∈ s.rv, v.ownBlock = some k) → w'.heap[k]? = w.heap[k]?) : RdAt B b w' t r s :=
  { pos := h.pos, low := h.low, len := h.len, apart := h.apart
    blk := by rw [hk b h.lt h.low (.inl (.inl rfl))]; exact h.blk
    evs := ownsRow_of_block h.evs fun k hk1 hv => hk k hk1 (h.evs.lt k hv).1 (.inl (.inr (.inl hv)))
    rls := ownsRow_of_block h.rls fun k hk1 hv => hk k hk1 (h.rls.lt k hv).1 (.inl (.inr (.inr (.inl hv))))
    uss := ownsRow_of_block h.uss fun k hk1 hv => hk k hk1 (h.uss.lt k hv).1 (.inl (.inr (.inr (.inr hv))))
    rol := fun i e v he hv => ownsRow_of_block (h.rol i e v he hv) fun k hk1 ho => hk k hk1 ((h.rol i e v he hv).lt k ho).1 (.inr ⟨v, List.mem_of_getElem? hv, ho⟩) }
/-- The reader's own cells are written: its lists stay. -/
theorem RdAt.put {B b : Nat} {w w' : World} {t : ByteArray} {r r' : Dsr.Rd} {s : St} (h : RdAt B b w t r s) (he : r'.events = r.events) (hr : r'.rules = r.rules) (hu : r'.uses = r.uses)
    (hb : w'.heap[b]? = some (.cells (rdCells t r' s) 138 (0, 0))) (hk : ∀ k, k < w.heap.size → k ≠ b → w'.heap[k]? = w.heap[k]?) : RdAt B b w' t r' s := by
  have ha := h.apart
  rw [List.pairwise_cons] at ha
  have hne : ∀ v : Value, v.ownBlock ∈ (s.ve.ownBlock :: s.vr.ownBlock :: s.vu.ownBlock :: s.rv.map Value.ownBlock) → ∀ k, v.ownBlock = some k → k ≠ b := by
    intro v hv k hkk e
    subst e
    rcases ha.1 _ hv with h1 | h1
    · cases h1
    · exact h1 hkk.symm
  exact
  { pos := h.pos, low := h.low, len := by rw [he]; exact h.len, apart := h.apart
    blk := hb
    evs := by rw [he]; exact ownsRow_of_block h.evs fun k hk1 hv => hk k hk1 (hne _ (by simp) k hv)
    rls := by rw [hr]; exact ownsRow_of_block h.rls fun k hk1 hv => hk k hk1 (hne _ (by simp) k hv)
    uss := by rw [hu]; exact ownsRow_of_block h.uss fun k hk1 hv => hk k hk1 (hne _ (by simp) k hv)
    rol := fun i e v he' hv => ownsRow_of_block (h.rol i e v (by rw [← he]; exact he') hv) fun k hk1 ho => hk k hk1 (hne v (by simp; right; right; right; exact ⟨v, List.mem_of_getElem? hv, rfl⟩) k ho) }
/-- What the walk wants of the reader's block. -/
theorem RdAt.cells {B b : Nat} {w : World} {t : ByteArray} {r : Dsr.Rd} {s : St} (h : RdAt B b w t r s) :
    w.cell? ⟨b, 0, none⟩ = some (.string t) ∧ w.cell? ⟨b, 1, none⟩ = some (.int .u8 r.now.kind) ∧ w.cell? ⟨b, 2, none⟩ = some (.int .u8 r.now.rule) ∧ w.cell? ⟨b, 3, none⟩ = some (.int .i64 r.now.at_) ∧ w.cell? ⟨b, 4, none⟩ = some (strV r.now.text) ∧
    w.cell? ⟨b, 5, none⟩ = some s.ve ∧ w.cell? ⟨b, 6, none⟩ = some s.vr ∧ w.cell? ⟨b, 7, none⟩ = some s.vu ∧ w.cell? ⟨b, 8, none⟩ = some (.int .i64 r.fErr) ∧ w.cell? ⟨b, 9, none⟩ = some (.int .i64 r.fAt) ∧ (∀ o, w.frozen? ⟨b, o, none⟩ = false) := by
  have hb := h.blk
  refine ⟨?_, ?_, ?_, ?_, ?_, ?_, ?_, ?_, ?_, ?_, ?_⟩
  all_goals first
    | (intro o; simp [World.frozen?, hb])
    | simp [World.cell?, hb]
end Go.Proofs.YtjmcokcdaddpcaaGreatDoor
set_option linter.unusedVariables false
set_option linter.unusedSimpArgs false
namespace Go.Proofs.YtjmcokcdaddpcaaGreatDoor
open Go.RowKit
abbrev ptr (b : Nat) : Value := .pointer (some ⟨b, 0, none⟩)
/-- Stores into the reader's block, one behind the other. -/
theorem blk_set {w : World} {b : Nat} {cs : Array Value} {T : TypeId} (h : w.heap[b]? = some (.cells cs T (0, 0))) (o : Nat) (v : Value) :
    (w.setCell ⟨b, o, none⟩ v).heap[b]? = some (.cells (cs.setIfInBounds o v) T (0, 0)) := heap_setCell_same w b o cs T v h
theorem blk_drew {w : World} {b : Nat} {o : Option Obj} (h : w.heap[b]? = o) : w.drew.heap[b]? = o := h
theorem Kp.set {b : Nat} {w w1 : World} (h : Kp (· = b) w w1) (o : Nat) (v : Value) : Kp (· = b) w (w1.setCell ⟨b, o, none⟩ v) := h.setCell (.inl rfl) v
theorem scan_at (t : ByteArray) (i : Int) (n : Nat) (w : World) (hi : i = (n : Int)) (hs : t.size ≤ 400) (hn : n ≤ t.size) (hS : SignsIn w) :
    Calls Tryz.prog 98 #[.string t, .int .i64 i] w fun e w' => e = .returned (tokV (Dsr.scan t.data.toList n)) ∧ Below w.heap.size w w' := by
  subst hi; exact scan_any t n w hs hn hS
theorem wrap_sum (a b : Nat) {n : Nat} (h : a + b ≤ n) (hn : n ≤ 400) : IntKind.i64.wrap ((a : Int) + (b : Int)) = ((a + b : Nat) : Int) := by
  have e : ((a : Int) + (b : Int)) = ((a + b : Nat) : Int) := by omega
  rw [e]
  exact IntWalk.i64_in _ (by omega)
theorem RdAt.below {B b : Nat} {w w1 : World} {t : ByteArray} {r : Dsr.Rd} {s : St} (h : RdAt B b w t r s) (hb : Below w.heap.size w w1) : RdAt B b w1 t r s :=
  h.same fun k hk _ _ => hb.block k hk
/-- What the walk wants behind a call that makes memory alone. -/
theorem rd_after {B b : Nat} {w w1 : World} {t : ByteArray} {r : Dsr.Rd} {s : St} (h : RdAt B b w t r s) (hb : Below w.drew.heap.size w.drew w1) :
    Hid (RdAt B b w1 t r s ∧ Below w.heap.size w w1) ∧ w1.cell? ⟨b, 1, none⟩ = some (.int .u8 r.now.kind) ∧ w1.cell? ⟨b, 2, none⟩ = some (.int .u8 r.now.rule) ∧ w1.cell? ⟨b, 3, none⟩ = some (.int .i64 r.now.at_) ∧ w1.cell? ⟨b, 4, none⟩ = some (strV r.now.text) ∧ (∀ o, w1.frozen? ⟨b, o, none⟩ = false) := by
  have hb' : Below w.heap.size w w1 := ⟨hb.os, hb.tape, hb.output, hb.size, hb.block⟩
  have h1 := h.below hb'
  obtain ⟨c0, c1, c2, c3, c4, c5, c6, c7, c8, c9, fz⟩ := h1.cells
  exact ⟨⟨h1, hb'⟩, c1, c2, c3, c4, fz⟩
theorem signs_drew {w : World} (h : SignsIn w) : SignsIn w.drew := h
set_option maxRecDepth 100000 in
set_option maxHeartbeats 400000 in
theorem refuse_any {B b : Nat} {w : World} {t : ByteArray} {r : Dsr.Rd} {s : St} (e : Nat) (h : RdAt B b w t r s) (hs : t.size ≤ 400) :
    Calls Tryz.prog 101 #[ptr b, .int .i64 e] w fun x w' => x = .returned (.tuple #[]) ∧ RdAt B b w' t (Dsr.refuse t.data.toList r e) s ∧ Kp (· = b) w w' := by
  obtain ⟨c0, c1, c2, c3, c4, c5, c6, c7, c8, c9, fz⟩ := h.cells
  have hsz : t.data.toList.length = t.size := by simp
  by_cases h0 : r.fErr = 0
  · have hb : ((r.fErr : Int) == 0) = true := by simp [h0]
    have H : Hid (RdAt B b w t r s) := h
    have H0 : Hid (r.fErr = 0) := h0
    clear h h0
    go_enter Tryz.func101, Tryz.ntmps101
    go_wp2
    go_end0
    refine ⟨rfl, H.out.put rfl rfl rfl ?_ ?_, ?_⟩
    · rw [blk_set (blk_set (blk_set (blk_set (blk_set (blk_set H.out.blk 8 _) 9 _) 1 _) 2 _) 3 _) 4 _]
      simp [rdCells, Dsr.refuse, H0.out]
    · intro k hk hne
      repeat rw [heap_setCell_other _ _ _ _ hne]
    · exact ((((((Kp.refl _ w).set 8 _).set 9 _).set 1 _).set 2 _).set 3 _).set 4 _
  · have hb : ((r.fErr : Int) == 0) = false := by simp; omega
    have H : Hid (RdAt B b w t r s) := h
    have H0 : Hid (¬ r.fErr = 0) := h0
    clear h h0
    go_enter Tryz.func101, Tryz.ntmps101
    go_wp2
    go_end0
    refine ⟨rfl, H.out.put rfl rfl rfl ?_ ?_, ?_⟩
    · rw [blk_set (blk_set (blk_set (blk_set H.out.blk 1 _) 2 _) 3 _) 4 _]
      have h0 := H0.out
      simp [rdCells, Dsr.refuse, h0]
    · intro k hk hne
      repeat rw [heap_setCell_other _ _ _ _ hne]
    · exact ((((Kp.refl _ w).set 1 _).set 2 _).set 3 _).set 4 _
end Go.Proofs.YtjmcokcdaddpcaaGreatDoor
