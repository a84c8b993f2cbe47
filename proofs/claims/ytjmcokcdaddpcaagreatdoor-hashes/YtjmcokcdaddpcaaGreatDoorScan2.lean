import Derived.Test.YtjmcokcdaddpcaaGreatDoorSign
set_option linter.unusedVariables false
set_option linter.unusedSimpArgs false
namespace Go.Proofs.YtjmcokcdaddpcaaGreatDoor
open Go.RowKit
theorem bcell {W w1 : World} (hb : Below W.heap.size W w1) : (∀ b o, b < W.heap.size → w1.cell? ⟨b, o, none⟩ = W.cell? ⟨b, o, none⟩) ∧ (∀ b o, b < W.heap.size → w1.frozen? ⟨b, o, none⟩ = W.frozen? ⟨b, o, none⟩) :=
  ⟨fun b o h => hb.cell (p := ⟨b, o, none⟩) h, fun b o h => hb.frozen (p := ⟨b, o, none⟩) h⟩
theorem below_alloc {w w1 : World} {o : Obj} (hb : Below (w.alloc o).heap.size (w.alloc o) w1) : Below w.heap.size w w1 :=
  ((Below.refl _ _).alloc (Nat.le_refl _) _).trans (hb.mono (by simp))
/-- The table of signs lies in memory. -/
def SignsIn (w : World) : Prop := 0 < w.heap.size ∧ w.cell? ⟨0, 0, none⟩ = some (.string ⟨#[45, 62, 42]⟩) ∧ w.cell? ⟨0, 1, none⟩ = some (.string ⟨#[45, 62, 60, 62]⟩) ∧ w.cell? ⟨0, 2, none⟩ = some (.string ⟨#[42, 45, 62]⟩) ∧ w.cell? ⟨0, 3, none⟩ = some (.string ⟨#[45, 62, 43]⟩) ∧ w.cell? ⟨0, 4, none⟩ = some (.string ⟨#[45, 62, 37]⟩)
theorem SignsIn.below {w w' : World} (h : SignsIn w) (hb : Below w.heap.size w w') : SignsIn w' := by
  obtain ⟨h0, c0, c1, c2, c3, c4⟩ := h
  exact ⟨Nat.lt_of_lt_of_le h0 hb.size, by rw [hb.cell h0, c0], by rw [hb.cell h0, c1], by rw [hb.cell h0, c2], by rw [hb.cell h0, c3], by rw [hb.cell h0, c4]⟩
theorem scanSign_in (s : ByteArray) (n : Nat) (w : World) (hs : s.size ≤ 400) (hn : n < s.size) (h : SignsIn w) :
    Calls Tryz.prog 145 #[.string s, .int .i64 n] w fun e w' => e = .returned (tokV (Dsr.scanSign (s.data.toList.drop n) n)) ∧ Below w.heap.size w w' := by
  obtain ⟨h0, c0, c1, c2, c3, c4⟩ := h
  exact scanSign_any s n w hs hn c0 c1 c2 c3 c4 h0
set_option maxRecDepth 100000 in
set_option maxHeartbeats 400000 in
theorem scan_any (s : ByteArray) (n : Nat) (w : World) (hs : s.size ≤ 400) (hn : n ≤ s.size) (hS : SignsIn w) :
    Calls Tryz.prog 98 #[.string s, .int .i64 n] w fun e w' => e = .returned (tokV (Dsr.scan s.data.toList n)) ∧ Below w.heap.size w w' := by
  have hn' : (n : Int) ≤ 400 := by omega
  go_enter Tryz.func98, Tryz.ntmps98
  go_wp2_with fail
  go_loop [5] (fun i => ∃ k : Nat, n ≤ k ∧ k ≤ s.size ∧ i = .int .i64 k ∧ k + Dsr.blankLen (s.data.toList.drop k) = n + Dsr.blankLen (s.data.toList.drop n)) (fun i => s.size - (intOf i).toNat)
  case atStart => exact ⟨n, Nat.le_refl _, hn, rfl, rfl⟩
  case round =>
    obtain ⟨k, hk1, hk2, rfl, hk3⟩ := hrel
    have H3 : Hid (k + Dsr.blankLen (s.data.toList.drop k) = n + Dsr.blankLen (s.data.toList.drop n)) := hk3
    clear hk3
    by_cases hlt : k < s.size
    · have HW : Hid (Dsr.blankLen (s.data.toList.drop k) = if Dsr.blank s[k] then Dsr.blankLen (s.data.toList.drop (k + 1)) + 1 else 0) := Dsr.blankLen_step (byte_some s k hlt)
      by_cases hl : Dsr.blank s[k] = true
      · go_wp2_with (go_at_call 142; refine (isBlank_any _ _).mono ?_; rintro e w' ⟨rfl, rfl⟩)
        go_round
        case rel => exact ⟨k + 1, by omega, by omega, by go_num, by have a := H3.out; have b := HW.out; simp [hl] at b; omega⟩
        case measure => simp [intOf]; omega
      · have hl' : Dsr.blank s[k] = false := by simpa using hl
        clear hl
        have hne : ((k : Int) == (s.size : Int)) = false := by simp; omega
        have hkn : k = n + Dsr.blankLen (s.data.toList.drop n) := by have a := H3.out; have b := HW.out; simp [hl'] at b; omega
        have HK : Hid (k = n + Dsr.blankLen (s.data.toList.drop n)) := hkn
        clear hkn
        have HS : Hid (SignsIn w) := hS
        clear hS
        have HL : Hid (s.data.toList.drop k = s[k] :: s.data.toList.drop (k + 1)) := by
          show _ = _
          rw [List.drop_eq_getElem_cons (by simpa using hlt)]; rfl
        by_cases ht : Dsr.letter s[k] = true
        · have HT : Hid (Dsr.scan s.data.toList n = Dsr.scanWord (s.data.toList.drop k) k) := by
            show _ = _
            rw [Dsr.scan, ← HK.out, HL.out, Dsr.scanAt, if_pos ht]
          go_wp2_with (first | (go_at_call 142; refine (isBlank_any _ _).mono ?_; rintro e w' ⟨rfl, rfl⟩) | (go_at_call 143; refine (isLetter_any _ _).mono ?_; rintro e w' ⟨rfl, rfl⟩))
          refine (scanWord_any _ _ _ hs hk2).mono ?_
          rintro e w1 ⟨rfl, hb⟩
          obtain ⟨hc, hf⟩ := bcell hb
          have hz : w.heap.size < w1.heap.size := by have := hb.size; simp at this; omega
          go_wp2_with fail
          exact bodyPost_ret (v := tokV (Dsr.scanWord (s.data.toList.drop k) k)) (by simp [results, Tryz.results98, go_sem, hz, hc]) rfl ⟨by rw [HT.out], by repeat (first | exact below_alloc hb | refine Below.setCell ?_ (by simp) _)⟩
        · have ht' : Dsr.letter s[k] = false := by simpa using ht
          clear ht
          have HT : Hid (Dsr.scan s.data.toList n = Dsr.scanSign (s.data.toList.drop k) k) := by
            show _ = _
            rw [Dsr.scan, ← HK.out, HL.out, Dsr.scanAt, if_neg (by rw [ht']; decide)]
          go_wp2_with (first | (go_at_call 142; refine (isBlank_any _ _).mono ?_; rintro e w' ⟨rfl, rfl⟩) | (go_at_call 143; refine (isLetter_any _ _).mono ?_; rintro e w' ⟨rfl, rfl⟩))
          refine (scanSign_in _ _ _ hs hlt (HS.out.below ((Below.refl _ _).alloc (Nat.le_refl _) _))).mono ?_
          rintro e w1 ⟨rfl, hb⟩
          obtain ⟨hc, hf⟩ := bcell hb
          have hz : w.heap.size < w1.heap.size := by have := hb.size; simp at this; omega
          go_wp2_with fail
          exact bodyPost_ret (v := tokV (Dsr.scanSign (s.data.toList.drop k) k)) (by simp [results, Tryz.results98, go_sem, hz, hc]) rfl ⟨by rw [HT.out], by repeat (first | exact below_alloc hb | refine Below.setCell ?_ (by simp) _)⟩
    · have hne : ((k : Int) == (s.size : Int)) = true := by simp; omega
      have hkn : k = n + Dsr.blankLen (s.data.toList.drop n) := by have a := H3.out; rw [Dsr.blankLen_end (by simp; omega)] at a; omega
      have HT : Hid (Dsr.scan s.data.toList n = ⟨10, 0, k, []⟩) := by
        show _ = _
        rw [Dsr.scan, ← hkn, List.drop_eq_nil_of_le (by simp; omega)]; rfl
      clear hkn
      go_wp2_with fail
      exact bodyPost_ret (v := tokV ⟨10, 0, k, []⟩) (by simp [results, Tryz.results98, go_sem]) rfl ⟨by rw [HT.out], (Below.refl _ _).alloc (Nat.le_refl _) _⟩
end Go.Proofs.YtjmcokcdaddpcaaGreatDoor
