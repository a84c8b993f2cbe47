import Derived.Test.YtjmcokcdaddpcaaGreatDoorSpR
set_option linter.unusedVariables false
set_option linter.unusedSimpArgs false
namespace Go.Proofs.YtjmcokcdaddpcaaGreatDoor
open Go.RowKit
set_option maxRecDepth 100000 in
set_option maxHeartbeats 3200000 in
theorem spelt_law (w : World) (v : Value) (zs : List Int) (turn bad : Int) (ht0 : -9223372036854775808 ≤ turn) (ht1 : turn ≤ 9223372036854775807) (hb0 : -9223372036854775808 ≤ bad) (hb1 : bad ≤ 9223372036854775807) (h : RawIs w v zs) (hS : SignsIn w) :
    Calls Tryz.prog 9 #[v, .int .i64 turn, .int .i64 bad] w fun e w' => e = .returned (.bool true) ∧ Below w.heap.size w w' := by
  obtain ⟨va, vn, vc, rfl⟩ := h.form
  have HR : Hid (RawIs w (.slice va vn vc) zs ∧ SignsIn w) := ⟨h, hS⟩
  clear h hS
  have hT : ∃ T : Nat, T < 7 ∧ pickN turn 7 = (T : Int) := ⟨(pickN turn 7).toNat, by unfold pickN; split <;> omega, by unfold pickN; split <;> omega⟩
  have hB : ∃ B : Nat, B < 35 ∧ pickN bad 35 = (B : Int) := ⟨(pickN bad 35).toNat, by unfold pickN; split <;> omega, by unfold pickN; split <;> omega⟩
  obtain ⟨T, hT1, hT2⟩ := hT
  obtain ⟨B, hB1, hB2⟩ := hB
  have hT3 := fun W => kpick_any turn 7 W ht0 ht1 (by decide) (by decide)
  have hB3 := fun W => kpick_any bad 35 W hb0 hb1 (by decide) (by decide)
  rw [hT2] at hT3
  rw [hB2] at hB3
  have HT : Hid (∀ W : World, Calls Tryz.prog 19 #[.int .i64 turn, .int .i64 7] W fun e w' => e = .returned (.int .i64 T) ∧ w' = W) := hT3
  have HB : Hid (∀ W : World, Calls Tryz.prog 19 #[.int .i64 bad, .int .i64 35] W fun e w' => e = .returned (.int .i64 B) ∧ w' = W) := hB3
  have HN : Hid (T < 7 ∧ B < 35) := ⟨hT1, hB1⟩
  clear hT1 hT2 hT3 hB1 hB2 hB3 ht0 ht1 hb0 hb1
  go_enter Tryz.func9, Tryz.ntmps9
  go_wp2_with (go_at_call 19; refine (HT.out _).mono ?_; rintro e w' ⟨rfl, rfl⟩)
  refine (kspelt_any _ _ zs T (-1) HN.out.1 (by decide) (by decide) HR.out.1).mono ?_
  rintro x w1 ⟨rfl, b1⟩
  have H1 : Hid (Below w'.heap.size w' w1 ∧ RawIs w1 (.slice va vn vc) zs ∧ SignsIn w1) := ⟨b1, HR.out.1.below b1, HR.out.2.below b1⟩
  clear b1
  have HG : Hid (∀ (n : Nat), (gapN zs n).length ≤ 2 ∧ ∀ c ∈ gapN zs n, Dsr.blank c = true) := fun n => gapN_ok zs n
  have HP1 : Hid (∀ (out : List UInt8) (fe fa : Nat), PrintP (Dsr.spAll (gapN zs) (-1) T 7).s out fe fa → out = wantT ∧ fe = 0 ∧ fa = 0) := fun out fe fa hP => print_good HG.out HN.out.1 hP
  generalize (Dsr.spAll (gapN zs) (-1) T 7).s = s1 at *
  generalize (Dsr.spAll (gapN zs) (-1) T 7).at_ = a1 at *
  go_wp2_with fail
  refine (print_any (t := ⟨s1.toArray⟩) H1.out.2.2).mono ?_
  rintro x w2 ⟨out, fe, fa, rfl, b2, hP⟩
  obtain ⟨rfl, rfl, rfl⟩ := HP1.out out fe fa hP
  have H2 : Hid (Below w'.heap.size w' w2 ∧ RawIs w2 (.slice va vn vc) zs ∧ SignsIn w2) := ⟨H1.out.1.trans (b2.mono H1.out.1.size), H1.out.2.1.below b2, H1.out.2.2.below b2⟩
  clear hP b2 H1
  go_wp2_with fail
  refine (print_any (t := ⟨wantT.toArray⟩) H2.out.2.2).mono ?_
  rintro x w3 ⟨out, fe, fa, rfl, b2, hP⟩
  obtain ⟨rfl, rfl, rfl⟩ := print_want hP
  have H3 : Hid (Below w'.heap.size w' w3 ∧ RawIs w3 (.slice va vn vc) zs ∧ SignsIn w3) := ⟨H2.out.1.trans (b2.mono H2.out.1.size), H2.out.2.1.below b2, H2.out.2.2.below b2⟩
  clear hP b2 H2
  have hw : strV wantT = .string ⟨#[101, 118, 101, 110, 116, 32, 102, 105, 108, 101, 32, 98, 121, 32, 98, 111, 115, 115, 44, 32, 99, 108, 101, 114, 107, 32, 100, 117, 101, 59, 10, 101, 118, 101, 110, 116, 32, 115, 105, 103, 110, 32, 98, 121, 32, 98, 111, 115, 115, 32, 111, 117, 116, 32, 100, 111, 110, 101, 59, 10, 102, 105, 108, 101, 32, 45, 62, 42, 32, 115, 105, 103, 110, 59, 10, 102, 105, 108, 101, 32, 45, 62, 43, 32, 115, 105, 103, 110, 59, 10, 115, 105, 103, 110, 32, 42, 45, 62, 32, 102, 105, 108, 101, 59, 10, 115, 105, 103, 110, 32, 45, 62, 60, 62, 32, 115, 105, 103, 110, 59, 10]⟩ := rfl
  rw [hw]
  clear hw
  go_wp2_with fail
  refine (HB.out _).mono ?_
  rintro x w4 ⟨rfl, rfl⟩
  go_wp2_with fail
  refine (kspelt_any _ _ zs T B HN.out.1 (by omega) (by have := HN.out.2; omega) H3.out.2.1).mono ?_
  rintro x w5 ⟨rfl, b5⟩
  have HP2 : Hid (∀ (out : List UInt8) (fe fa : Nat), PrintP (Dsr.spAll (gapN zs) B T 7).s out fe fa → out = [] ∧ fe = 2 ∧ fa = (Dsr.spAll (gapN zs) B T 7).at_) := fun out fe fa hP => print_bad HG.out HN.out.1 HN.out.2 hP
  have H5 : Hid (Below w'.heap.size w' w5 ∧ SignsIn w5) := ⟨H3.out.1.trans (b5.mono H3.out.1.size), H3.out.2.2.below b5⟩
  clear b5
  generalize (Dsr.spAll (gapN zs) B T 7).s = s2 at *
  generalize (Dsr.spAll (gapN zs) B T 7).at_ = a2 at *
  go_wp2_with fail
  refine (print_any (t := ⟨s2.toArray⟩) H5.out.2).mono ?_
  rintro x w6 ⟨out, fe, fa, rfl, b6, hP⟩
  obtain ⟨rfl, rfl, rfl⟩ := HP2.out out fe fa hP
  have H6 : Hid (Below w'.heap.size w' w6) := H5.out.1.trans (b6.mono H5.out.1.size)
  clear hP b6 H5
  go_wp2_with fail
  go_ret
  exact ⟨rfl, H6.out⟩
end Go.Proofs.YtjmcokcdaddpcaaGreatDoor
