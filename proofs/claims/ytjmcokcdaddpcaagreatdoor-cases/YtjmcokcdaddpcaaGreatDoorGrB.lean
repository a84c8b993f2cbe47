import Derived.Test.YtjmcokcdaddpcaaGreatDoorUd
set_option linter.unusedVariables false
set_option linter.unusedSimpArgs false
namespace Go.Proofs.YtjmcokcdaddpcaaGreatDoor
open Go.RowKit
theorem alloc_second2 (w : World) (o o' : Obj) : ((w.alloc o).alloc o').heap[w.heap.size + 1]? = some o' := by
  have h := heap_alloc_new (w.alloc o) o'
  have e : (w.alloc o).heap.size = w.heap.size + 1 := by simp
  rw [e] at h; exact h
theorem wordKind_range (l : List UInt8) : 1 ≤ Dsr.wordKind l ∧ Dsr.wordKind l ≤ 6 := by
  unfold Dsr.wordKind
  repeat (split; · decide)
  decide
theorem oneKind_range (l : List UInt8) : Dsr.oneKind l = 0 ∨ Dsr.oneKind l = 7 ∨ Dsr.oneKind l = 8 := by
  unfold Dsr.oneKind
  split
  · simp
  · split <;> simp
theorem word_tkV (s : ByteArray) (n k : Nat) (h : k = n + Dsr.wordLen (s.data.toList.drop n)) :
    (Value.agg #[.string (s.extract n k), .int .i64 n, .bool true, .int .i64 0]) = tkV (Dsr.scanWord (s.data.toList.drop n) n) := by
  have e : s.extract n k = ⟨((s.data.toList.drop n).take (Dsr.wordLen (s.data.toList.drop n))).toArray⟩ := by
    rw [Lib.extract_eq, h, Nat.add_sub_cancel_left]
  have hr := wordKind_range ((s.data.toList.drop n).take (Dsr.wordLen (s.data.toList.drop n)))
  have e1 : isW (Dsr.scanWord (s.data.toList.drop n) n) = true := by simp [isW, Dsr.scanWord, hr]
  have e2 : sgn (Dsr.scanWord (s.data.toList.drop n) n) = 0 := by
    unfold sgn Dsr.scanWord
    simp only
    rw [if_neg (by omega)]
  unfold tkV
  rw [e1, e2, e]
  rfl
theorem slice_to (s : ByteArray) (n k : Nat) (h : n ≤ k) (hk : k ≤ s.size) (w : World) :
    (Instr.slice 9 (.string s) (some (.int .i64 n)) (some (.int .i64 (k : Int))) none).run Tryz.prog w = .ok (.string (s.extract n k)) w := by
  have := slice_at s n (k - n) (by omega) w
  have e : (n : Int) + ((k - n : Nat) : Int) = (k : Int) := by omega
  rw [e, show n + (k - n) = k by omega] at this
  exact this
set_option maxRecDepth 100000 in
set_option maxHeartbeats 800000 in
theorem rtoken_word (s : ByteArray) (n : Nat) (w : World) (hs : s.size ≤ 400) (hn : n < s.size) (hl : Dsr.letter s[n] = true) :
    Calls Tryz.prog 161 #[.string s, .int .i64 n] w fun e w' => e = .returned (tkV (Dsr.scanWord (s.data.toList.drop n) n)) ∧ Below w.heap.size w w' := by
  have hn' : (n : Int) < 400 := by omega
  have HL : Hid (Dsr.letter s[n] = true) := hl
  have HW0 : Hid (1 ≤ Dsr.wordLen (s.data.toList.drop n)) := by
    show _ ≤ _
    rw [Dsr.wordLen_step (byte_some s n hn), if_pos (by simp [Dsr.wordy, hl])]
    omega
  clear hl
  go_enter Tryz.func161, Tryz.ntmps161
  go_wp2_with fail
  go_loop [5] (fun i => ∃ k : Nat, n ≤ k ∧ k ≤ s.size ∧ i = .int .i64 k ∧ k + Dsr.wordLen (s.data.toList.drop k) = n + Dsr.wordLen (s.data.toList.drop n)) (fun i => s.size - (intOf i).toNat)
  case atStart => exact ⟨n, Nat.le_refl _, by omega, rfl, rfl⟩
  case round =>
    obtain ⟨k, hk1, hk2, rfl, hk3⟩ := hrel
    have H3 : Hid (k + Dsr.wordLen (s.data.toList.drop k) = n + Dsr.wordLen (s.data.toList.drop n)) := hk3
    clear hk3
    by_cases hlt : k < s.size
    · have HW : Hid (Dsr.wordLen (s.data.toList.drop k) = if Dsr.wordy s[k] then Dsr.wordLen (s.data.toList.drop (k + 1)) + 1 else 0) := Dsr.wordLen_step (byte_some s k hlt)
      rcases hlk : Dsr.letter s[k] with _ | _
      · have hkn : n < k := by
          rcases Nat.lt_or_ge n k with h | h
          · exact h
          · have : k = n := by omega
            subst this
            rw [HL.out] at hlk; cases hlk
        have hkb : ((k : Int) == (n : Int)) = false := beq_eq_false_iff_ne.2 (by omega)
        rcases hd : Dsr.digit s[k] with _ | _
        · have hkn' : k = n + Dsr.wordLen (s.data.toList.drop n) := by
            have a := H3.out
            have b := HW.out
            simp [Dsr.wordy, hlk, hd] at b
            omega
          have HKN : Hid (k = n + Dsr.wordLen (s.data.toList.drop n)) := hkn'
          clear hkn'
          have hsl : ∀ w : World, (Instr.slice 9 (.string s) (some (.int .i64 n)) (some (.int .i64 (k : Int))) none).run Tryz.prog w = .ok (.string (s.extract n k)) w := fun w => slice_to s n k hk1 hk2 w
          go_wp2_with (first | (go_at_call 217; refine (rletter_any _ _).mono ?_; rintro e w' ⟨rfl, rfl⟩) | (go_at_call 218; refine (rdigit_any _ _).mono ?_; rintro e w' ⟨rfl, rfl⟩))
          exact bodyPost_ret (v := .agg #[.string (s.extract n k), .int .i64 n, .bool true, .int .i64 0]) (by simp [results, Tryz.results161, go_sem]) rfl ⟨congrArg Ending.returned (word_tkV s n k HKN.out), (Below.refl _ _).alloc (Nat.le_refl _) _⟩
        · go_wp2_with (first | (go_at_call 217; refine (rletter_any _ _).mono ?_; rintro e w' ⟨rfl, rfl⟩) | (go_at_call 218; refine (rdigit_any _ _).mono ?_; rintro e w' ⟨rfl, rfl⟩))
          go_round
          case rel => exact ⟨k + 1, by omega, by omega, by go_num, by have a := H3.out; have b := HW.out; simp [Dsr.wordy, hd] at b; omega⟩
          case measure => simp [intOf]; omega
      · go_wp2_with (first | (go_at_call 217; refine (rletter_any _ _).mono ?_; rintro e w' ⟨rfl, rfl⟩) | (go_at_call 218; refine (rdigit_any _ _).mono ?_; rintro e w' ⟨rfl, rfl⟩))
        go_round
        case rel => exact ⟨k + 1, by omega, by omega, by go_num, by have a := H3.out; have b := HW.out; simp [Dsr.wordy, hlk] at b; omega⟩
        case measure => simp [intOf]; omega
    · have hkn' : k = n + Dsr.wordLen (s.data.toList.drop n) := by have a := H3.out; rw [Dsr.wordLen_end (by simp; omega)] at a; omega
      have HKN : Hid (k = n + Dsr.wordLen (s.data.toList.drop n)) := hkn'
      have hkn : (n : Int) < (k : Int) := by have := HW0.out; omega
      clear hkn'
      have hsl : ∀ w : World, (Instr.slice 9 (.string s) (some (.int .i64 n)) (some (.int .i64 (k : Int))) none).run Tryz.prog w = .ok (.string (s.extract n k)) w := fun w => slice_to s n k hk1 hk2 w
      go_wp2_with fail
      exact bodyPost_ret (v := .agg #[.string (s.extract n k), .int .i64 n, .bool true, .int .i64 0]) (by simp [results, Tryz.results161, go_sem]) rfl ⟨congrArg Ending.returned (word_tkV s n k HKN.out), (Below.refl _ _).alloc (Nat.le_refl _) _⟩
theorem sign_tkV (s : ByteArray) (n k : Nat) (hk : k < 5) (h : Dsr.signOf (s.data.toList.drop n) = k) :
    (Value.agg #[strV (Dsr.signs.getD k []), .int .i64 n, .bool false, .int .i64 ((k + 1 : Nat) : Int)]) = tkV (Dsr.scanSign (s.data.toList.drop n) n) := by
  have e : Dsr.scanSign (s.data.toList.drop n) n = ⟨9, k, n, Dsr.signs.getD k []⟩ := by unfold Dsr.scanSign; rw [h, if_pos hk]
  rw [e]
  rfl
theorem one_tkV (s : ByteArray) (n : Nat) (h : ¬ Dsr.signOf (s.data.toList.drop n) < 5) :
    (Value.agg #[.string (s.extract n (n + 1)), .int .i64 n, .bool false, .int .i64 0]) = tkV (Dsr.scanSign (s.data.toList.drop n) n) := by
  have e : Dsr.scanSign (s.data.toList.drop n) n = ⟨Dsr.oneKind ((s.data.toList.drop n).take 1), 0, n, (s.data.toList.drop n).take 1⟩ := by unfold Dsr.scanSign; rw [if_neg h]
  have e1 : s.extract n (n + 1) = ⟨((s.data.toList.drop n).take 1).toArray⟩ := by rw [Lib.extract_eq, Nat.add_sub_cancel_left]
  rw [e, e1]
  have hr := oneKind_range ((s.data.toList.drop n).take 1)
  have e2 : isW ⟨Dsr.oneKind ((s.data.toList.drop n).take 1), 0, n, (s.data.toList.drop n).take 1⟩ = false := by
    unfold isW
    rcases hr with h | h | h <;> rw [h] <;> rfl
  have e3 : sgn ⟨Dsr.oneKind ((s.data.toList.drop n).take 1), 0, n, (s.data.toList.drop n).take 1⟩ = 0 := by
    unfold sgn
    rcases hr with h | h | h <;> rw [h] <;> rfl
  unfold tkV
  rw [e2, e3]
  rfl
theorem rbegins_sign (s : ByteArray) (n : Nat) (p : ByteArray) (b : Bool) (w : World) (hs : s.size ≤ 400) (hn : n ≤ s.size) (hp : p.size ≤ 10) (hb : p.data.toList.isPrefixOf (s.data.toList.drop n) = b) :
    Calls Tryz.prog 219 #[.string s, .int .i64 n, .string p] w fun e w' => e = .returned (.bool b) ∧ w' = w := by
  subst hb
  exact rbegins_any s p n w hs hn hp
set_option maxRecDepth 100000 in
set_option maxHeartbeats 1600000 in
theorem rtoken_sign (s : ByteArray) (n : Nat) (w : World) (hs : s.size ≤ 400) (hn : n < s.size) (hl : Dsr.letter s[n] = false) :
    Calls Tryz.prog 161 #[.string s, .int .i64 n] w fun e w' => e = .returned (tkV (Dsr.scanSign (s.data.toList.drop n) n)) ∧ Below w.heap.size w w' := by
  have hn' : (n : Int) < 400 := by omega
  have hb0 : ((n : Int) == (n : Int)) = true := by simp
  have hsl : ∀ w : World, (Instr.slice 9 (.string s) (some (.int .i64 n)) (some (.int .i64 ((n : Int) + 1))) none).run Tryz.prog w = .ok (.string (s.extract n (n + 1))) w := fun w => slice_one s n (by omega) w
  have HX : ∃ x, Hid (s.extract n (n + 1) = x) := ⟨_, rfl⟩
  obtain ⟨x, HX⟩ := HX
  rw [HX.out] at hsl
  go_enter Tryz.func161, Tryz.ntmps161
  go_wp2_with fail
  go_loop [5] (fun i => i = .int .i64 n) (fun i => 0)
  case atStart => rfl
  case round =>
    subst hrel
    rcases hd : Dsr.digit s[n] with _ | _
    all_goals
      go_wp2_with (first | (go_at_call 217; refine (rletter_any _ _).mono ?_; rintro e w' ⟨rfl, rfl⟩) | (go_at_call 218; refine (rdigit_any _ _).mono ?_; rintro e w' ⟨rfl, rfl⟩))
      refine (rSigns_any _).mono ?_
      rintro e w1 ⟨rfl, hw1⟩
      have hz1 : (w.alloc (.cells #[.string ⟨#[]⟩, .int .i64 0, .bool false, .int .i64 0] 223)).heap.size = w.heap.size + 1 := by simp
      have q1 : w1.heap[w.heap.size + 1]? = some (.cells #[.string ⟨#[45, 62, 42]⟩, .string ⟨#[45, 62, 60, 62]⟩, .string ⟨#[42, 45, 62]⟩, .string ⟨#[45, 62, 43]⟩, .string ⟨#[45, 62, 37]⟩] 9 (0, 0)) := by rw [hw1]; exact alloc_second2 _ _ _
      have q0 : w1.heap[w.heap.size]? = some (.cells #[.string ⟨#[]⟩, .int .i64 0, .bool false, .int .i64 0] 223 (0, 0)) := by rw [hw1]; exact (Below.heap_alloc _ _ _ (by simp)).trans (heap_alloc_new _ _)
      have bw : Below w.heap.size w w1 := by rw [hw1]; exact ((Below.refl _ _).alloc (Nat.le_refl _) _).alloc (by simp) _
      rw [hz1]
      have HB0 : Hid (Below w.heap.size w w1 ∧ w1.heap[w.heap.size]? = some (.cells #[.string ⟨#[]⟩, .int .i64 0, .bool false, .int .i64 0] 223 (0, 0))) := ⟨bw, q0⟩
      have c0 : w1.cell? ⟨w.heap.size + 1, 0, none⟩ = some (.string ⟨#[45, 62, 42]⟩) := by simp [World.cell?, q1]
      have c1 : w1.cell? ⟨w.heap.size + 1, 1, none⟩ = some (.string ⟨#[45, 62, 60, 62]⟩) := by simp [World.cell?, q1]
      have c2 : w1.cell? ⟨w.heap.size + 1, 2, none⟩ = some (.string ⟨#[42, 45, 62]⟩) := by simp [World.cell?, q1]
      have c3 : w1.cell? ⟨w.heap.size + 1, 3, none⟩ = some (.string ⟨#[45, 62, 43]⟩) := by simp [World.cell?, q1]
      have c4 : w1.cell? ⟨w.heap.size + 1, 4, none⟩ = some (.string ⟨#[45, 62, 37]⟩) := by simp [World.cell?, q1]
      have d0 : w1.cell? ⟨w.heap.size, 0, none⟩ = some (.string ⟨#[]⟩) := by simp [World.cell?, q0]
      have d1 : w1.cell? ⟨w.heap.size, 1, none⟩ = some (.int .i64 0) := by simp [World.cell?, q0]
      have d2 : w1.cell? ⟨w.heap.size, 2, none⟩ = some (.bool false) := by simp [World.cell?, q0]
      have d3 : w1.cell? ⟨w.heap.size, 3, none⟩ = some (.int .i64 0) := by simp [World.cell?, q0]
      have fz : ∀ o, w1.frozen? ⟨w.heap.size, o, none⟩ = false := by intro o; simp [World.frozen?, q0]
      clear hw1 q0 q1 bw hz1
      go_wp2_with fail
      go_loop [9] (fun i => ∃ k : Nat, k ≤ 5 ∧ i = .int .i64 k ∧ k ≤ Dsr.signOf (s.data.toList.drop n)) (fun i => 5 - (intOf i).toNat)
      case atStart => exact ⟨0, by omega, rfl, Nat.zero_le _⟩
      case round =>
        obtain ⟨k, hk1, rfl, hk2⟩ := hrel
        have HK : Hid (k ≤ Dsr.signOf (s.data.toList.drop n)) := hk2
        clear hk2
        by_cases hk : k < 5
        · rcases hb : (Dsr.signs.getD k []).isPrefixOf (s.data.toList.drop n) with _ | _
          · have HB : Hid ((Dsr.signs.getD k []).isPrefixOf (s.data.toList.drop n) = false) := hb
            clear hb
            rcases k with _ | _ | _ | _ | _ | k
            all_goals first
              | omega
              | (go_wp2_with (go_at_call 219; refine (rbegins_sign s n _ false _ hs (by omega) (by decide) HB.out).mono ?_; rintro e w' ⟨rfl, rfl⟩)
                 go_round
                 case rel => exact ⟨_, by omega, by go_num, Dsr.signOf_next _ _ HK.out (by omega) HB.out⟩
                 case measure => simp [intOf])
          · have HB : Hid ((Dsr.signs.getD k []).isPrefixOf (s.data.toList.drop n) = true) := hb
            clear hb
            rcases k with _ | _ | _ | _ | _ | k
            all_goals first
              | omega
              | (go_wp2_with (go_at_call 219; refine (rbegins_sign s n _ true _ hs (by omega) (by decide) HB.out).mono ?_; rintro e w' ⟨rfl, rfl⟩)
                 have hh := Dsr.signOf_here _ _ HK.out (by omega) HB.out
                 refine bodyPost_ret (v := tkV (Dsr.scanSign (s.data.toList.drop n) n)) ?_ rfl ⟨rfl, ?_⟩
                 · rw [← sign_tkV s n _ (by omega) hh]
                   simp [results, Tryz.results161, go_sem, d0, d1, d2, d3, fz, Dsr.signs]
                 · repeat (first | exact HB0.out.1 | refine Below.setCell ?_ (by simp) _))
        · have hk5 : k = 5 := by omega
          subst hk5
          clear hk1 hk
          go_wp2_with fail
          refine bodyPost_ret (v := .agg #[.string x, .int .i64 n, .bool false, .int .i64 0]) (by simp [results, Tryz.results161, go_sem, d0, d1, d2, d3, fz]) rfl ⟨congrArg Ending.returned (by rw [← HX.out]; exact one_tkV s n (by have := HK.out; omega)), ?_⟩
          repeat (first | exact HB0.out.1 | refine Below.setCell ?_ (by simp) _)
end Go.Proofs.YtjmcokcdaddpcaaGreatDoor
