import Derived.Test.YtjmcokcdaddpcaaGreatDoorHeB
import Derived.DataElems
set_option linter.unusedVariables false
set_option linter.unusedSimpArgs false
namespace Go.Proofs.YtjmcokcdaddpcaaGreatDoor
open Go.RowKit
theorem EMid.asked {w w4 w5 : World} {cb M : Nat} {a : SA} {c c' : Dsr.Cs} {wb : Option Nat} {v : Value} {bs : List UInt8} (hE : EMid w w4 cb M a c wb) (A : AskS M w4 w5 cb c' a wb v bs) : ∃ wb', EMid w w5 cb M a c' wb' := by
  obtain ⟨wb', hC, hw'⟩ := A.cs
  refine ⟨wb', hC, hE.bel.trans (A.kp.below hE.bel.size (fun k hk => by rw [hk]; exact hE.far cb (.inl rfl))), fun x hx => ?_⟩
  rcases hx with rfl | hx | hx
  · exact hE.far x (.inl rfl)
  · rcases hw' x hx with h1 | h1
    · exact hE.far x (.inr (.inl h1))
    · have := hE.bel.size; omega
  · exact hE.far x (.inr (.inr (foot_iff.2 (foot_iff.1 hx))))
theorem EMid.settled {w w4 w5 : World} {cb M : Nat} {a : SA} {c c' : Dsr.Cs} {wb : Option Nat} (hE : EMid w w4 cb M a c wb) (C : CsAt M w5 cb c' a none) (K : Kp (fun k => k = cb ∨ k ∈ a.eb) w4 w5) : EMid w w5 cb M a c' none := by
  refine ⟨C, hE.bel.trans (K.below hE.bel.size (fun k hk => ?_)), fun x hx => ?_⟩
  · rcases hk with rfl | hk
    · exact hE.far k (.inl rfl)
    · exact hE.far k (.inr (.inr (foot_iff.2 (.inr (.inl hk)))))
  · rcases hx with rfl | hx | hx
    · exact hE.far x (.inl rfl)
    · cases hx
    · exact hE.far x (.inr (.inr (foot_iff.2 (foot_iff.1 hx))))
set_option maxRecDepth 100000 in
set_option maxHeartbeats 20000000 in
theorem held_law (w : World) (f : Bool) (v : Value) (zs : List Int) (h : OpsIs w v zs) (hS : SignsIn w) :
    Calls Tryz.prog 11 #[.bool f, v] w fun x w' => x = .returned (.bool true) ∧ Below w.heap.size w w' := by
  have hform : ∃ a c, v = .slice a zs.length c := by
    rcases h with ⟨rfl, rfl⟩ | ⟨a, cap, h1, _⟩
    · exact ⟨_, _, rfl⟩
    · exact ⟨_, _, h1⟩
  obtain ⟨va, vc, rfl⟩ := hform
  have HS : Hid (SignsIn w ∧ OpsIs w (.slice va zs.length vc) zs) := ⟨hS, h⟩
  have hml : (zs.length : Int) ≤ 9223372036854775807 := by
    rcases h with ⟨_, rfl⟩ | ⟨a, cap, _, h2, _⟩
    · simp
    · have h3 : zs.length ≤ 9223372036854775807 := Nat.le_trans h2 (by unfold maxLen; decide)
      omega
  clear h hS
  have HN : Hid (Calls Tryz.prog 21 #[strV (hText f)] w fun x w' => ∃ cb M a c sa n sc, x = .returned (.tuple #[ptr cb, .slice sa n sc, .int .i64 0]) ∧ EMid w w' cb M a c none ∧ HC c f 0) := by
    refine (new_any (w := w) (t := ⟨(hText f).toArray⟩) HS.out.1 (fun he es rs ho => by
      obtain ⟨rfl, rfl⟩ := h_ord (by simpa using ho)
      exact h_gok f)).mono ?_
    rintro x w2 ⟨pv, sa, sn, sc, fe, rfl, b2, hN⟩
    obtain ⟨rfl, cb, M, a, c, rfl, hC, hH, hFt⟩ := h_new (f := f) (by simpa using hN)
    exact ⟨cb, M, a, c, sa, sn, sc, rfl, ⟨hC, b2, hFt⟩, hH⟩
  obtain ⟨f0, hf0⟩ : ∃ f0, f0 = f := ⟨_, rfl⟩
  rw [← hf0] at HN
  have HF0 : Hid (f0 = f) := hf0
  clear hf0
  cases f
  all_goals
    have hf : f0 = _ := HF0.out
    subst hf
    go_enter Tryz.func11, Tryz.ntmps11
    go_wp2_with fail
    refine HN.out.mono ?_
    rintro x w2 ⟨cb, M, a, c, sa, sn, sc, rfl, hE, hH⟩
    have H2 : Hid (EMid w w2 cb M a c none ∧ HC c _ 0) := ⟨hE, hH⟩
    clear hE hH HN HF0
    go_wp2_with fail
    go_loopg [9, 10] 61 (fun g dv iv wr => ∃ (due : Bool) (m : Nat) (c : Dsr.Cs), dv = .bool due ∧ iv = .int .i64 m ∧ m + g = 61 ∧ m ≤ 60 ∧ EMid w wr cb M a c none ∧ HC c due m)
    case atStart => exact ⟨_, 0, c, rfl, rfl, by omega, by omega, H2.out⟩
    case round =>
      obtain ⟨due, m, c, rfl, rfl, hm, hm60, hE, hH⟩ := hrel
      have HR : Hid (EMid w wr cb M a c none ∧ HC c due m) := ⟨hE, hH⟩
      have hmI : (m : Int) ≤ 60 := by omega
      by_cases hlt : m < 60
      · by_cases hz : m < zs.length
        · obtain ⟨z, hzz⟩ : ∃ z, zs[m]? = some z := ⟨_, List.getElem?_eq_getElem hz⟩
          have hc : ∃ ad, va = some ad ∧ wr.cell? (ad.add (m * 2 + 1)) = some (.int .i64 z) ∧ -9223372036854775808 ≤ z ∧ z ≤ 9223372036854775807 := by
            rcases HS.out.2.below hE.bel with ⟨_, rfl⟩ | ⟨ad, cap, e1, _, e3⟩
            · simp at hz
            · injection e1 with e1
              exact ⟨ad, e1, e3 m z hzz⟩
          obtain ⟨ad, rfl, d1, z0, z1⟩ := hc
          have d2 : wr.cell? ⟨(ad.add (m * 2)).block, (ad.add (m * 2)).off + 1, none⟩ = some (.int .i64 z) := by
            have e : wr.cell? ((ad.add (m * 2)).add 1) = some (.int .i64 z) := by rw [Addr.add_add]; exact d1
            exact e
          obtain ⟨n, hn, hpn⟩ : ∃ n : Nat, n < 3 ∧ pickN z 3 = n := by
            have e1 : 0 ≤ pickN z 3 := Int.emod_nonneg _ (by decide)
            have e2 : pickN z 3 < 3 := Int.emod_lt_of_pos _ (by decide)
            exact ⟨(pickN z 3).toNat, by omega, by omega⟩
          have HST : Hid ((Dsr.askP c [114] (hName n)).1 = hV due n ∧ (Dsr.askP c [114] (hName n)).2.2.1 = 0 ∧ (Dsr.settleP (Dsr.askP c [114] (hName n)).2.2.2).1 = 0 ∧ HC (Dsr.settleP (Dsr.askP c [114] (hName n)).2.2.2).2 (hDue due n) (m + 1)) := h_step hH hlt hn
          have HPN : Hid (pickN z 3 = n) := hpn
          have hltI : (m : Int) < 60 := by omega
          have hzI : (m : Int) < (zs.length : Int) := by omega
          clear hE hH hzz hpn d1
          go_wp2_with fail
          refine (kpick_any z 3 _ z0 z1 (by decide) (by decide)).mono ?_
          rintro x w3 ⟨rfl, rfl⟩
          rw [HPN.out]
          rcases n with _ | _ | _ | n
          rotate_left 3
          · exfalso; omega
          · have g1 : (Dsr.askP c [114] (hName 0)).1 = hV due 0 := HST.out.1
            have g2 : (Dsr.askP c [114] (hName 0)).2.2.1 = 0 := HST.out.2.1
            have g3 : (Dsr.settleP (Dsr.askP c [114] (hName 0)).2.2.2).1 = 0 := HST.out.2.2.1
            have g4 : Hid (HC (Dsr.settleP (Dsr.askP c [114] (hName 0)).2.2.2).2 (hDue due 0) (m + 1)) := HST.out.2.2.2
            have L := ask_any HR.out.1.cs [114] (hName 0)
            rw [g1, g2] at L
            have HL : Hid (Calls Tryz.prog 24 #[ptr cb, strV [114], strV (hName 0)] w3 fun x w' => ∃ sa n' sc, x = .returned (.tuple #[.int .u8 (hV due 0 : Nat), .slice sa n' sc, .int .i64 ((0 : Nat) : Int)]) ∧ AskS M w3 w' cb (Dsr.askP c [114] (hName 0)).2.2.2 a none (.slice sa n' sc) (Dsr.askP c [114] (hName 0)).2.1) := L
            clear L g1 g2 HST
            have hnm : strV (hName 0) = .string ((⟨#[97, 98, 99]⟩ : ByteArray).extract 0 (0 + 1)) := rfl
            rw [hnm] at HL
            clear hnm
            cases due
            all_goals
              simp only [hV, hDue] at HL g4
              go_wp2_with fail
              refine HL.out.mono ?_
              rintro x w4 ⟨sa1, sn1, sc1, rfl, A4⟩
              obtain ⟨wb4, E4⟩ := HR.out.1.asked A4
              have HE4 : Hid (EMid w w4 cb M a (Dsr.askP c [114] (hName 0)).2.2.2 wb4) := E4
              clear A4 E4 HL
              go_wp2_with fail
              refine (settle_any HE4.out.cs).mono ?_
              rintro x w5 ⟨rfl, C5, K5⟩
              rw [g3]
              have HE5 : Hid (EMid w w5 cb M a (Dsr.settleP (Dsr.askP c [114] (hName 0)).2.2.2).2 none) := HE4.out.settled C5 K5
              clear C5 K5 HE4
              go_wp2_with fail
              refine (accepting_any HE5.out.cs).mono ?_
              rintro x w6 ⟨rfl, b6⟩
              rw [h_acc g4.out]
              have HE6 : Hid (EMid w w6 cb M a (Dsr.settleP (Dsr.askP c [114] (hName 0)).2.2.2).2 none) := HE5.out.aside b6
              clear b6 HE5
              go_wp2_with fail
              go_roundg (60 - m)
              case measure => omega
              case rel => exact ⟨_, m + 1, _, rfl, by go_num, by omega, by omega, HE6.out, g4.out⟩
          · have g1 : (Dsr.askP c [114] (hName 1)).1 = hV due 1 := HST.out.1
            have g2 : (Dsr.askP c [114] (hName 1)).2.2.1 = 0 := HST.out.2.1
            have g3 : (Dsr.settleP (Dsr.askP c [114] (hName 1)).2.2.2).1 = 0 := HST.out.2.2.1
            have g4 : Hid (HC (Dsr.settleP (Dsr.askP c [114] (hName 1)).2.2.2).2 (hDue due 1) (m + 1)) := HST.out.2.2.2
            have L := ask_any HR.out.1.cs [114] (hName 1)
            rw [g1, g2] at L
            have HL : Hid (Calls Tryz.prog 24 #[ptr cb, strV [114], strV (hName 1)] w3 fun x w' => ∃ sa n' sc, x = .returned (.tuple #[.int .u8 (hV due 1 : Nat), .slice sa n' sc, .int .i64 ((0 : Nat) : Int)]) ∧ AskS M w3 w' cb (Dsr.askP c [114] (hName 1)).2.2.2 a none (.slice sa n' sc) (Dsr.askP c [114] (hName 1)).2.1) := L
            clear L g1 g2 HST
            have hnm : strV (hName 1) = .string ((⟨#[97, 98, 99]⟩ : ByteArray).extract 1 (1 + 1)) := rfl
            rw [hnm] at HL
            clear hnm
            cases due
            all_goals
              simp only [hV, hDue] at HL g4
              go_wp2_with fail
              refine HL.out.mono ?_
              rintro x w4 ⟨sa1, sn1, sc1, rfl, A4⟩
              obtain ⟨wb4, E4⟩ := HR.out.1.asked A4
              have HE4 : Hid (EMid w w4 cb M a (Dsr.askP c [114] (hName 1)).2.2.2 wb4) := E4
              clear A4 E4 HL
              go_wp2_with fail
              refine (settle_any HE4.out.cs).mono ?_
              rintro x w5 ⟨rfl, C5, K5⟩
              rw [g3]
              have HE5 : Hid (EMid w w5 cb M a (Dsr.settleP (Dsr.askP c [114] (hName 1)).2.2.2).2 none) := HE4.out.settled C5 K5
              clear C5 K5 HE4
              go_wp2_with fail
              refine (accepting_any HE5.out.cs).mono ?_
              rintro x w6 ⟨rfl, b6⟩
              rw [h_acc g4.out]
              have HE6 : Hid (EMid w w6 cb M a (Dsr.settleP (Dsr.askP c [114] (hName 1)).2.2.2).2 none) := HE5.out.aside b6
              clear b6 HE5
              go_wp2_with fail
              go_roundg (60 - m)
              case measure => omega
              case rel => exact ⟨_, m + 1, _, rfl, by go_num, by omega, by omega, HE6.out, g4.out⟩
          · have g1 : (Dsr.askP c [114] (hName 2)).1 = hV due 2 := HST.out.1
            have g2 : (Dsr.askP c [114] (hName 2)).2.2.1 = 0 := HST.out.2.1
            have g3 : (Dsr.settleP (Dsr.askP c [114] (hName 2)).2.2.2).1 = 0 := HST.out.2.2.1
            have g4 : Hid (HC (Dsr.settleP (Dsr.askP c [114] (hName 2)).2.2.2).2 (hDue due 2) (m + 1)) := HST.out.2.2.2
            have L := ask_any HR.out.1.cs [114] (hName 2)
            rw [g1, g2] at L
            have HL : Hid (Calls Tryz.prog 24 #[ptr cb, strV [114], strV (hName 2)] w3 fun x w' => ∃ sa n' sc, x = .returned (.tuple #[.int .u8 (hV due 2 : Nat), .slice sa n' sc, .int .i64 ((0 : Nat) : Int)]) ∧ AskS M w3 w' cb (Dsr.askP c [114] (hName 2)).2.2.2 a none (.slice sa n' sc) (Dsr.askP c [114] (hName 2)).2.1) := L
            clear L g1 g2 HST
            have hnm : strV (hName 2) = .string ((⟨#[97, 98, 99]⟩ : ByteArray).extract 2 (2 + 1)) := rfl
            rw [hnm] at HL
            clear hnm
            cases due
            all_goals
              simp only [hV, hDue] at HL g4
              go_wp2_with fail
              refine HL.out.mono ?_
              rintro x w4 ⟨sa1, sn1, sc1, rfl, A4⟩
              obtain ⟨wb4, E4⟩ := HR.out.1.asked A4
              have HE4 : Hid (EMid w w4 cb M a (Dsr.askP c [114] (hName 2)).2.2.2 wb4) := E4
              clear A4 E4 HL
              go_wp2_with fail
              refine (settle_any HE4.out.cs).mono ?_
              rintro x w5 ⟨rfl, C5, K5⟩
              rw [g3]
              have HE5 : Hid (EMid w w5 cb M a (Dsr.settleP (Dsr.askP c [114] (hName 2)).2.2.2).2 none) := HE4.out.settled C5 K5
              clear C5 K5 HE4
              go_wp2_with fail
              refine (accepting_any HE5.out.cs).mono ?_
              rintro x w6 ⟨rfl, b6⟩
              rw [h_acc g4.out]
              have HE6 : Hid (EMid w w6 cb M a (Dsr.settleP (Dsr.askP c [114] (hName 2)).2.2.2).2 none) := HE5.out.aside b6
              clear b6 HE5
              go_wp2_with fail
              go_roundg (60 - m)
              case measure => omega
              case rel => exact ⟨_, m + 1, _, rfl, by go_num, by omega, by omega, HE6.out, g4.out⟩
        · have hzI : ¬ ((m : Int) < (zs.length : Int)) := by omega
          obtain ⟨da, hmk⟩ := h_mark hH
          have HK : Hid (Dsr.findE c.es [97] = some ⟨[97], [[114]], da, true, due⟩) := hmk
          clear hE hH hmk
          go_wp2_with fail
          refine (mark_any HR.out.1.cs [97]).mono ?_
          rintro x w3 ⟨rfl, b3⟩
          have HB3 : Hid (Below w.heap.size w w3) := HR.out.1.bel.trans (b3.mono HR.out.1.bel.size)
          rw [HK.out]
          have e1 : markOf (some ⟨[97], [[114]], da, true, due⟩) = markV da true due := rfl
          have e2 : markE (some ⟨[97], [[114]], da, true, due⟩) = 0 := rfl
          rw [e1, e2]
          clear e1 e2 b3
          cases due
          all_goals
            go_wp2_with fail
            go_ret
            exact ⟨rfl, by repeat (first | exact HB3.out | refine Below.alloc ?_ HB3.out.size _)⟩
      · have hltI : ¬ ((m : Int) < 60) := by omega
        obtain ⟨da, hmk⟩ := h_mark hH
        have HK : Hid (Dsr.findE c.es [97] = some ⟨[97], [[114]], da, true, due⟩) := hmk
        clear hE hH hmk
        by_cases hz : (m : Int) < (zs.length : Int)
        all_goals
          go_wp2_with fail
          refine (mark_any HR.out.1.cs [97]).mono ?_
          rintro x w3 ⟨rfl, b3⟩
          have HB3 : Hid (Below w.heap.size w w3) := HR.out.1.bel.trans (b3.mono HR.out.1.bel.size)
          rw [HK.out]
          have e1 : markOf (some ⟨[97], [[114]], da, true, due⟩) = markV da true due := rfl
          have e2 : markE (some ⟨[97], [[114]], da, true, due⟩) = 0 := rfl
          rw [e1, e2]
          clear e1 e2 b3
          cases due
          all_goals
            go_wp2_with fail
            go_ret
            exact ⟨rfl, by repeat (first | exact HB3.out | refine Below.alloc ?_ HB3.out.size _)⟩
end Go.Proofs.YtjmcokcdaddpcaaGreatDoor
