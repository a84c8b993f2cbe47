import Derived.Test.YtjmcokcdaddpcaaGreatDoorScan
import Derived.KernelRfl
set_option linter.unusedVariables false
set_option linter.unusedSimpArgs false
namespace Go.Proofs.YtjmcokcdaddpcaaGreatDoor
open Go.RowKit
/-- The table of signs, as it lies in memory. -/
abbrev signsV : Value := .agg #[.string ⟨#[45, 62, 42]⟩, .string ⟨#[45, 62, 60, 62]⟩, .string ⟨#[42, 45, 62]⟩, .string ⟨#[45, 62, 43]⟩, .string ⟨#[45, 62, 37]⟩]
theorem hasPrefix_sign (s : ByteArray) (n : Nat) (p : ByteArray) (b : Bool) (w : World) (hs : s.size ≤ 400) (hb : p.data.toList.isPrefixOf (s.data.toList.drop n) = b) :
    Calls Tryz.prog 182 #[.string (s.extract n s.size), .string p] w fun e w' => e = .returned (.bool b) ∧ w' = w := by
  refine (hasPrefix_any _ _ _).mono ?_
  rintro e w' ⟨rfl, rfl⟩
  refine ⟨ret_bool ?_, rfl⟩
  rw [Lib.extract_data, ← hb]
  congr 1
  rw [List.take_of_length_le]; simp
theorem slice_one (s : ByteArray) (n : Nat) (h : n + 1 ≤ s.size) (w : World) :
    (Instr.slice 9 (.string s) (some (.int .i64 n)) (some (.int .i64 ((n : Int) + 1))) none).run Tryz.prog w = .ok (.string (s.extract n (n + 1))) w := by
  have a : (0 : Int) ≤ (n : Int) + 1 ∧ (n : Int) + 1 ≤ (s.size : Int) := by omega
  have b : ((n : Int) + 1).toNat = n + 1 := by omega
  simp [Instr.slice, Instr.sliceBounds, Instr.sliceBound, asIntOf, run_underlying Tryz.underlying9, a, b, go_sem]
theorem oneKind_ret (s : ByteArray) (n : Nat) (l : List UInt8) (hl : l = (s.data.toList.drop n).take 1) (h5 : 5 ≤ Dsr.signOf (s.data.toList.drop n)) (k : Nat) (hk : k = Dsr.oneKind l) :
    Ending.returned (.agg #[.int .u8 k, .int .u8 0, .int .i64 n, .string ⟨l.toArray⟩]) = .returned (tokV (Dsr.scanSign (s.data.toList.drop n) n)) := by
  subst hl hk
  have h6 := Dsr.signOf_le (s.data.toList.drop n)
  rw [Dsr.scanSign, if_neg (by omega)]; rfl
set_option maxRecDepth 100000 in
set_option maxHeartbeats 400000 in
theorem scanSign_any (s : ByteArray) (n : Nat) (w : World) (hs : s.size ≤ 400) (hn : n < s.size)
    (c0 : w.cell? ⟨0, 0, none⟩ = some (.string ⟨#[45, 62, 42]⟩)) (c1 : w.cell? ⟨0, 1, none⟩ = some (.string ⟨#[45, 62, 60, 62]⟩)) (c2 : w.cell? ⟨0, 2, none⟩ = some (.string ⟨#[42, 45, 62]⟩)) (c3 : w.cell? ⟨0, 3, none⟩ = some (.string ⟨#[45, 62, 43]⟩)) (c4 : w.cell? ⟨0, 4, none⟩ = some (.string ⟨#[45, 62, 37]⟩)) (hz : 0 < w.heap.size) :
    Calls Tryz.prog 145 #[.string s, .int .i64 n] w fun e w' => e = .returned (tokV (Dsr.scanSign (s.data.toList.drop n) n)) ∧ Below w.heap.size w w' := by
  have hn' : (n : Int) < 400 := by omega
  have hn1 : (n : Int) + 1 ≤ (s.size : Int) := by omega
  have hn2 : n + 1 ≤ s.size := by omega
  have i0 : ∀ w : World, (Instr.index 210 signsV (.int .i64 0)).run Tryz.prog w = .ok (.string ⟨#[45, 62, 42]⟩) w := fun _ => by kernel_rfl
  have i1 : ∀ w : World, (Instr.index 210 signsV (.int .i64 1)).run Tryz.prog w = .ok (.string ⟨#[45, 62, 60, 62]⟩) w := fun _ => by kernel_rfl
  have i2 : ∀ w : World, (Instr.index 210 signsV (.int .i64 2)).run Tryz.prog w = .ok (.string ⟨#[42, 45, 62]⟩) w := fun _ => by kernel_rfl
  have i3 : ∀ w : World, (Instr.index 210 signsV (.int .i64 3)).run Tryz.prog w = .ok (.string ⟨#[45, 62, 43]⟩) w := fun _ => by kernel_rfl
  have i4 : ∀ w : World, (Instr.index 210 signsV (.int .i64 4)).run Tryz.prog w = .ok (.string ⟨#[45, 62, 37]⟩) w := fun _ => by kernel_rfl
  go_enter Tryz.func145, Tryz.ntmps145
  go_wp2_with fail
  go_loop [9] (fun i => ∃ k : Nat, k ≤ 5 ∧ i = .int .i64 k ∧ k ≤ Dsr.signOf (s.data.toList.drop n)) (fun i => 5 - (intOf i).toNat)
  case atStart => exact ⟨0, by omega, rfl, Nat.zero_le _⟩
  case round =>
    obtain ⟨k, hk1, rfl, hk2⟩ := hrel
    have HK : Hid (k ≤ Dsr.signOf (s.data.toList.drop n)) := hk2
    clear hk2
    by_cases hk : k < 5
    · rcases hb : (Dsr.signs.getD k []).isPrefixOf (s.data.toList.drop n) with _ | _
      · have HB : Hid ((Dsr.signs.getD k []).isPrefixOf (s.data.toList.drop n) = false) := hb
        clear hb
        rcases k with _ | _ | _ | _ | _ | k
        all_goals first
          | omega
          | (go_wp2_with (go_at_call 182; refine (hasPrefix_sign s n _ false _ hs HB.out).mono ?_; rintro e w' ⟨rfl, rfl⟩)
             go_round
             case rel => exact ⟨_, by omega, by go_num, Dsr.signOf_next _ _ HK.out (by omega) HB.out⟩
             case measure => simp [intOf])
      · have HB : Hid ((Dsr.signs.getD k []).isPrefixOf (s.data.toList.drop n) = true) := hb
        clear hb
        rcases k with _ | _ | _ | _ | _ | k
        all_goals first
          | omega
          | (go_wp2_with (go_at_call 182; refine (hasPrefix_sign s n _ true _ hs HB.out).mono ?_; rintro e w' ⟨rfl, rfl⟩)
             have hh := Dsr.signOf_here _ _ HK.out (by omega) HB.out
             refine bodyPost_ret (v := tokV (Dsr.scanSign (s.data.toList.drop n) n)) ?_ rfl ⟨rfl, (Below.refl _ _).alloc (Nat.le_refl _) _⟩
             simp [Dsr.scanSign, hh, Dsr.signs]
             simp [results, Tryz.results145, go_sem])
    · have hk5 : k = 5 := by omega
      subst hk5
      clear hk1 hk
      have e1 : s.extract n (n + 1) = ⟨((s.data.toList.drop n).take 1).toArray⟩ := by rw [Lib.extract_eq, Nat.add_sub_cancel_left]
      have hsl : ∀ w : World, (Instr.slice 9 (.string s) (some (.int .i64 n)) (some (.int .i64 ((n : Int) + 1))) none).run Tryz.prog w = .ok (.string ⟨((s.data.toList.drop n).take 1).toArray⟩) w := fun w => by rw [slice_one s n hn2 w, e1]
      clear e1
      generalize hL : (s.data.toList.drop n).take 1 = L at hsl
      have HL := hL.symm
      have HL' : Hid (L = (s.data.toList.drop n).take 1) := HL
      clear hL HL
      go_wp2_with fail
      · exact bodyPost_ret (v := .agg #[.int .u8 ((7 : Nat) : Int), .int .u8 0, .int .i64 n, .string ⟨L.toArray⟩]) (by simp [results, Tryz.results145, go_sem]) rfl ⟨oneKind_ret s n L HL'.out HK.out 7 (by simp only [Dsr.oneKind, *]; rfl), by repeat (first | exact Below.refl _ _ | refine Below.alloc ?_ (by simp) _ | refine Below.setCell ?_ (by simp) _)⟩
      · exact bodyPost_ret (v := .agg #[.int .u8 ((8 : Nat) : Int), .int .u8 0, .int .i64 n, .string ⟨L.toArray⟩]) (by simp [results, Tryz.results145, go_sem]) rfl ⟨oneKind_ret s n L HL'.out HK.out 8 (by simp only [Dsr.oneKind, *]; rfl), by repeat (first | exact Below.refl _ _ | refine Below.alloc ?_ (by simp) _ | refine Below.setCell ?_ (by simp) _)⟩
      · exact bodyPost_ret (v := .agg #[.int .u8 ((0 : Nat) : Int), .int .u8 0, .int .i64 n, .string ⟨L.toArray⟩]) (by simp [results, Tryz.results145, go_sem]) rfl ⟨oneKind_ret s n L HL'.out HK.out 0 (by simp only [Dsr.oneKind, *]; rfl), by repeat (first | exact Below.refl _ _ | refine Below.alloc ?_ (by simp) _ | refine Below.setCell ?_ (by simp) _)⟩
end Go.Proofs.YtjmcokcdaddpcaaGreatDoor
