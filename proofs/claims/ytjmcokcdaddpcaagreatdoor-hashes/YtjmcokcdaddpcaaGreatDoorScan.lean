import Derived.Test.YtjmcokcdaddpcaaGreatDoorLeaf
import Derived.Lib.Strings
import Derived.KernelRfl
set_option linter.unusedVariables false
set_option linter.unusedSimpArgs false
namespace Go.Proofs.YtjmcokcdaddpcaaGreatDoor
open Go.RowKit
/-- A token as a value. -/
abbrev tokV (t : Dsr.Tok) : Value := .agg #[.int .u8 t.kind, .int .u8 t.rule, .int .i64 t.at_, .string ⟨t.text.toArray⟩]
theorem byte_some (s : ByteArray) (k : Nat) (h : k < s.size) : s.data.toList[k]? = some s[k] := by
  rw [List.getElem?_eq_getElem (by simpa using h)]; rfl
theorem scanWord_tok (s : ByteArray) (n k : Nat) (h : k = n + Dsr.wordLen (s.data.toList.drop n)) :
    Ending.returned (.agg #[.int .u8 (Dsr.wordKind (s.extract n k).toList), .int .u8 0, .int .i64 n, .string (s.extract n k)]) = .returned (tokV (Dsr.scanWord (s.data.toList.drop n) n)) := by
  have e : s.extract n k = ⟨((s.data.toList.drop n).take (Dsr.wordLen (s.data.toList.drop n))).toArray⟩ := by
    rw [Lib.extract_eq, h, Nat.add_sub_cancel_left]
  rw [e, ByteArray.toList_mk]; rfl
set_option maxHeartbeats 400000 in
theorem scanWord_any (s : ByteArray) (n : Nat) (w : World) (hs : s.size ≤ 400) (hn : n ≤ s.size) :
    Calls Tryz.prog 144 #[.string s, .int .i64 n] w fun e w' => e = .returned (tokV (Dsr.scanWord (s.data.toList.drop n) n)) ∧ Below w.heap.size w w' := by
  have hn' : (n : Int) ≤ 400 := by omega
  go_enter Tryz.func144, Tryz.ntmps144
  go_wp2_with fail
  go_loop [5] (fun i => ∃ k : Nat, n ≤ k ∧ k ≤ s.size ∧ i = .int .i64 k ∧ k + Dsr.wordLen (s.data.toList.drop k) = n + Dsr.wordLen (s.data.toList.drop n)) (fun i => s.size - (intOf i).toNat)
  case atStart => exact ⟨n, Nat.le_refl _, hn, rfl, rfl⟩
  case round =>
    obtain ⟨k, hk1, hk2, rfl, hk3⟩ := hrel
    have H3 : Hid (k + Dsr.wordLen (s.data.toList.drop k) = n + Dsr.wordLen (s.data.toList.drop n)) := hk3
    clear hk3
    by_cases hlt : k < s.size
    · have HW : Hid (Dsr.wordLen (s.data.toList.drop k) = if Dsr.wordy s[k] then Dsr.wordLen (s.data.toList.drop (k + 1)) + 1 else 0) := Dsr.wordLen_step (byte_some s k hlt)
      by_cases hl : Dsr.letter s[k] = true
      · go_wp2_with (go_at_call 143; refine (isLetter_any _ _).mono ?_; rintro e w' ⟨rfl, rfl⟩)
        go_round
        case rel => exact ⟨k + 1, by omega, by omega, by go_num, by have a := H3.out; have b := HW.out; simp [Dsr.wordy, hl] at b; omega⟩
        case measure => simp [intOf]; omega
      · have hl' : Dsr.letter s[k] = false := by simpa using hl
        clear hl
        by_cases hd : Dsr.digit s[k] = true
        · go_wp2_with (first | (go_at_call 143; refine (isLetter_any _ _).mono ?_; rintro e w' ⟨rfl, rfl⟩) | (go_at_call 180; refine (isDigit_any _ _).mono ?_; rintro e w' ⟨rfl, rfl⟩))
          go_round
          case rel => exact ⟨k + 1, by omega, by omega, by go_num, by have a := H3.out; have b := HW.out; simp [Dsr.wordy, hl', hd] at b; omega⟩
          case measure => simp [intOf]; omega
        · have hd' : Dsr.digit s[k] = false := by simpa using hd
          clear hd
          go_wp2_with (first | (go_at_call 143; refine (isLetter_any _ _).mono ?_; rintro e w' ⟨rfl, rfl⟩) | (go_at_call 180; refine (isDigit_any _ _).mono ?_; rintro e w' ⟨rfl, rfl⟩) | (go_at_call 181; refine (wordKind_any _ _).mono ?_; rintro e w' ⟨rfl, rfl⟩))
          have b := HW.out
          simp [Dsr.wordy, hl', hd'] at b
          have hkn : k = n + Dsr.wordLen (s.data.toList.drop n) := by have a := H3.out; omega
          exact bodyPost_ret (v := .agg #[.int .u8 (Dsr.wordKind (s.extract n k).toList), .int .u8 0, .int .i64 n, .string (s.extract n k)]) (by simp [results, Tryz.results144, go_sem]) rfl ⟨scanWord_tok s n k hkn, (Below.refl _ _).alloc (Nat.le_refl _) _⟩
    · have hkn : k = n + Dsr.wordLen (s.data.toList.drop n) := by have a := H3.out; rw [Dsr.wordLen_end (by simp; omega)] at a; omega
      have HK : Hid (k = n + Dsr.wordLen (s.data.toList.drop n)) := hkn
      clear hkn
      go_wp2_with (first | (go_at_call 181; refine (wordKind_any _ _).mono ?_; rintro e w' ⟨rfl, rfl⟩))
      exact bodyPost_ret (v := .agg #[.int .u8 (Dsr.wordKind (s.extract n k).toList), .int .u8 0, .int .i64 n, .string (s.extract n k)]) (by simp [results, Tryz.results144, go_sem]) rfl ⟨scanWord_tok s n k HK.out, (Below.refl _ _).alloc (Nat.le_refl _) _⟩
end Go.Proofs.YtjmcokcdaddpcaaGreatDoor
