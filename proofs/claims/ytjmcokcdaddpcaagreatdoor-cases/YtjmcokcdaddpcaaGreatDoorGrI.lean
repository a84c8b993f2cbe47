import Derived.Test.YtjmcokcdaddpcaaGreatDoorUe
import Derived.Test.YtjmcokcdaddpcaaGreatDoorUf
set_option linter.unusedVariables false
set_option linter.unusedSimpArgs false
namespace Go.Proofs.YtjmcokcdaddpcaaGreatDoor
open Go.RowKit
theorem after_rrule {B b : Nat} {wc w1 : World} {l : LK} {s : LS} {u : RR} {o : Obj} {g cap : Nat} (HR : LkAt B b wc l s)
    (hown : w1.ownsRow B 269 3 (.slice (some ⟨g, 0, none⟩) (l.rules.length + 1) cap) (l.rules.length + 1) (l.rules.flatMap rrC ++ rrC u)) (hgrow : (wc.alloc o).grownBy w1 s.vr.ownBlock) (hat : s.vr.ownBlock = some g ∨ g = (wc.alloc o).heap.size) :
    Hid (LNext B b wc l s (w1.setCell ⟨b, 5, none⟩ (.slice (some ⟨g, 0, none⟩) (l.rules.length + 1) cap)) { l with rules := l.rules ++ [u] } { s with vr := .slice (some ⟨g, 0, none⟩) (l.rules.length + 1) cap }) ∧ w1.cell? ⟨b, 5, none⟩ = some s.vr ∧ w1.frozen? ⟨b, 5, none⟩ = false := by
  have HA := (LNext.refl HR).aside (below_alloc1 o)
  have hc := HA.lk.cells
  have hne : some b ≠ s.vr.ownBlock := fun e => (HA.lk.rowMine (r := ⟨s.vr, 269, 3, l.rules.length, l.rules.flatMap rrC⟩) (by simp [lkRows]) b e.symm).2 rfl
  refine ⟨HA.trans (HA.lk.ruleAdd u hown hgrow hat), ?_, ?_⟩
  · rw [hgrow.cell_far ⟨b, 5, none⟩ HA.lk.lt hne]; exact hc.2.2.2.2.2.1
  · rw [hgrow.frozen_far ⟨b, 5, none⟩ HA.lk.lt hne]; exact hc.2.2.2.2.2.2.2.2.2 5
theorem far_tok {B b : Nat} {w w0 w3 : World} {l l2 : LK} {s : LS} {cs : Array Value} {T : TypeId} {c : Value} (h : LkAt B b w l s) (hs : w0.heap.size = w.heap.size) (hl : lkRows l2 s = lkRows l s) (hk : Kp (LMine b l2 s) (w0.alloc (.cells cs T)).drew w3) (hc : cs[0]? = some c) : w3.cell? ⟨w.heap.size, 0, none⟩ = some c := by
  have hb := hk.block w.heap.size (by simp [hs]) (fun hm => by
    unfold LMine at hm
    rw [hl] at hm
    have := (h.rows.lt hm).2
    omega)
  have hn := heap_alloc_new w0 (.cells cs T)
  rw [hs] at hn
  have hb : w3.heap[w.heap.size]? = some (.cells cs T (0, 0)) := hb.trans hn
  simp [World.cell?, hb, hc]
set_option maxRecDepth 100000 in
set_option maxHeartbeats 6400000 in
theorem rbegin_any {B b : Nat} {w : World} {l : LK} {s : LS} (k : Dsr.Tok) (h : LkAt B b w l s) (hu : l.uses.length ≤ 1000) (hk : k.text.length ≤ 1000) (hr : l.rules.length ≤ 1000) (hln : l.lines ≤ 1000) (hev : l.event ≤ 1000) (hru : l.rule ≤ 1000) :
    Calls Tryz.prog 162 #[ptrL b, tkV k] w fun e w' => e = .returned (.tuple #[]) ∧ ∃ s', LNext B b w l s w' (beginP l k) s' := by
  obtain ⟨kd, ru, at_, tx⟩ := k
  have A0 : LNext B b w l s (w.alloc (.cells #[strV tx, .int .i64 at_, .bool (isW ⟨kd, ru, at_, tx⟩), .int .i64 (sgn ⟨kd, ru, at_, tx⟩)] 223)) l s := (LNext.refl h).aside ((Below.refl _ _).alloc (Nat.le_refl _) _)
  have HA : Hid (LNext B b w l s (w.alloc (.cells #[strV tx, .int .i64 at_, .bool (isW ⟨kd, ru, at_, tx⟩), .int .i64 (sgn ⟨kd, ru, at_, tx⟩)] 223)) l s) := A0
  have hlt := h.lt
  obtain ⟨c0, c1, c2, c3, c4, c5, c6, c7, c8, fz⟩ := h.cells
  have hlI : (l.lines : Int) ≤ 1000 := by omega
  have heI : (l.event : Int) ≤ 1000 := by omega
  have hrI : (l.rule : Int) ≤ 1000 := by omega
  have H : Hid (LkAt B b w l s) := h
  have hB : B ≤ w.heap.size := by have := h.low; omega
  clear h A0 HA
  rcases hE : isEvent ⟨kd, ru, at_, tx⟩ with _ | _
  · have HP : Hid (beginP l ⟨kd, ru, at_, tx⟩ = { namedP { l with lines := l.lines + 1, rule := l.rule + 1 } ⟨kd, ru, at_, tx⟩ (decide (l.rule + 1 ≤ 20)) 3 8 with rules := l.rules ++ [⟨0, tx, []⟩] }) := by show _ = _; unfold beginP; rw [if_neg (by rw [hE]; decide)]
    have hrd : decide ((l.rule : Int) + 1 ≤ 20) = decide (l.rule + 1 ≤ 20) := by rw [Bool.eq_iff_iff]; simp; omega
    have HRD : Hid (decide ((l.rule : Int) + 1 ≤ 20) = decide (l.rule + 1 ≤ 20)) := hrd
    clear hrd
    have N2 : LNext B b w l s (((w.setCell ⟨b, 1, none⟩ (.int .i64 (l.lines + 1))).setCell ⟨b, 8, none⟩ (.int .i64 (l.rule + 1))).alloc (.cells #[strV tx, .int .i64 at_, .bool (isW ⟨kd, ru, at_, tx⟩), .int .i64 (sgn ⟨kd, ru, at_, tx⟩)] 223)).drew { l with lines := l.lines + 1, rule := l.rule + 1 } s :=
      (((LNext.refl H.out).put (l2 := { l with lines := l.lines + 1 }) 1 _ rfl rfl rfl rfl).put (l2 := { l with lines := l.lines + 1, rule := l.rule + 1 }) 8 _ rfl rfl rfl rfl).aside (((Below.refl _ _).alloc (Nat.le_refl _) _).drew)
    have HN2 : Hid (LNext B b w l s (((w.setCell ⟨b, 1, none⟩ (.int .i64 (l.lines + 1))).setCell ⟨b, 8, none⟩ (.int .i64 (l.rule + 1))).alloc (.cells #[strV tx, .int .i64 at_, .bool (isW ⟨kd, ru, at_, tx⟩), .int .i64 (sgn ⟨kd, ru, at_, tx⟩)] 223)).drew { l with lines := l.lines + 1, rule := l.rule + 1 } s) := N2
    clear N2
    have hcase : isW ⟨kd, ru, at_, tx⟩ = false ∨ (isW ⟨kd, ru, at_, tx⟩ = true ∧ (tx == [101, 118, 101, 110, 116]) = false) := by
      unfold isEvent at hE
      rcases hw : isW ⟨kd, ru, at_, tx⟩ with _ | _
      · exact .inl rfl
      · right
        rw [hw] at hE
        exact ⟨rfl, by simpa using hE⟩
    clear hE
    have hbw := hlt
    obtain ⟨bw, hbw'⟩ : ∃ bw, isW ⟨kd, ru, at_, tx⟩ = bw := ⟨_, rfl⟩
    have ek : tkV ⟨kd, ru, at_, tx⟩ = .agg #[strV tx, .int .i64 at_, .bool bw, .int .i64 (sgn ⟨kd, ru, at_, tx⟩)] := by unfold tkV; rw [hbw']
    rw [hbw'] at HN2 hcase
    have RN := fun (w1 : World) (h1 : LkAt B b w1 { l with lines := l.lines + 1, rule := l.rule + 1 } s) => rnamed_any ⟨kd, ru, at_, tx⟩ (decide ((l.rule : Int) + 1 ≤ 20)) 3 8 h1 hu hk
    rw [ek] at RN
    have HRN : Hid (∀ (w1 : World), LkAt B b w1 { l with lines := l.lines + 1, rule := l.rule + 1 } s → _) := RN
    clear RN
    rw [ek]
    clear hbw' ek
    have HR2 : Hid (rrC ⟨0, tx, []⟩ = rrC ⟨0, tx, []⟩) := rfl
    obtain ⟨i0, hi, hz0, hz1, hz2⟩ := info_parts Tryz.infoRRl
    rcases hcase with rfl | ⟨rfl, hT⟩
    all_goals
      go_enter Tryz.func162, Tryz.ntmps162
      go_wp2_with fail
      go_cut [] from 9 (fun wd => ∃ s3, LNext B b w l s wd (namedP { l with lines := l.lines + 1, rule := l.rule + 1 } ⟨kd, ru, at_, tx⟩ (decide ((l.rule : Int) + 1 ≤ 20)) 3 8) s3 ∧ s3.vr = s.vr ∧ wd.cell? ⟨w.heap.size, 0, none⟩ = some (strV tx))
      case first =>
        go_region_with (go_at_call 163; refine (HRN.out _ HN2.out.lk).mono ?_; rintro e w3 ⟨rfl, s3, N3, q1, q2, q3⟩)
        all_goals
          go_wp2_with fail
          go_meet
          case rel => exact ⟨_, HN2.out.trans N3, q2, far_tok H.out (by simp) rfl N3.kp rfl⟩
      case rest =>
        obtain ⟨s3, N3, q2, tk0⟩ := hcut
        rw [HRD.out] at N3
        have er : (namedP { l with lines := l.lines + 1, rule := l.rule + 1 } ⟨kd, ru, at_, tx⟩ (decide (l.rule + 1 ≤ 20)) 3 8).rules = l.rules := by unfold namedP; split <;> (try split) <;> rfl
        obtain ⟨ln, hln2⟩ : ∃ ln, namedP { l with lines := l.lines + 1, rule := l.rule + 1 } ⟨kd, ru, at_, tx⟩ (decide (l.rule + 1 ≤ 20)) 3 8 = ln := ⟨_, rfl⟩
        rw [hln2] at N3 er
        have HQ : Hid (beginP l ⟨kd, ru, at_, tx⟩ = { ln with rules := l.rules ++ [⟨0, tx, []⟩] }) := by rw [← hln2]; exact HP
        clear hln2 HP HN2 HRN HRD
        obtain ⟨d0, d1, d2, d3, d4, d5, d6, d7, d8, fz3⟩ := N3.lk.cells
        have HU : Hid (wc.ownsRow B 269 3 s3.vr ln.rules.length (ln.rules.flatMap rrC)) := N3.lk.own1
        have hbw2 := N3.lk.lt
        have hB3 : B ≤ wc.heap.size := by have := N3.lk.low; omega
        have hw3 : w.heap.size < wc.heap.size := World.block_lt_of_cell? _ _ tk0
        have HN3 : Hid (LNext B b w l s wc ln s3) := N3
        have hr3 : ln.rules.length ≤ 1000 := by rw [er]; exact hr
        have HER : Hid (ln.rules = l.rules) := er
        clear N3 er c0 c1 c2 c3 c4 c5 c6 c7 c8 fz q2 d0 d1 d2 d3 d4 d6 d7 d8
        go_wp2_with fail
        go_region_law (refine step_append_lies _ rfl (.tmp 56) (.tmp 60) 216 rfl B 269 i0 _ 3 40 Tryz.underlying216 hi hz0 hz1 hz2 rfl (by decide) s3.vr ln.rules.length _ (by simp [Act.eval, Act.put]) (by first | exact HU.out.alloc _ | exact (HU.out.alloc _).drew) ⟨wc.heap.size, 0, none⟩ 1 1 (rrC ⟨0, tx, []⟩) (by simp [Act.eval, Act.put]) rfl (by exact news_l rfl) (one_rr _) (by decide) (by unfold maxLen; omega) (by omega) (by simp; omega) _ rfl ?_; intro g cap w2 hown hgrow hat hlt1; obtain ⟨HM, e7, f7⟩ := after_rrule HN3.out.lk hown (grownD hgrow) hat)
        all_goals
          go_wp2_with fail
          go_end0
          refine ⟨rfl, { s3 with vr := .slice (some ⟨g, 0, none⟩) (ln.rules.length + 1) cap }, ?_⟩
          rw [HQ.out, ← HER.out]
          exact HN3.out.trans HM.out
  · have hW : isW ⟨kd, ru, at_, tx⟩ = true := by unfold isEvent at hE; simp at hE; exact hE.1
    have hT : tx = [101, 118, 101, 110, 116] := by unfold isEvent at hE; simp at hE; exact hE.2
    have HP : Hid (beginP l ⟨kd, ru, at_, tx⟩ = { l with lines := l.lines + 1, event := l.event + 1, want := 1, e := if 10 < l.event + 1 then 3 else l.e }) := by show _ = _; unfold beginP; rw [if_pos hE]
    clear hE
    subst hT
    by_cases h10 : 10 < l.event + 1
    · have hI : (10 : Int) < (l.event : Int) + 1 := by omega
      have H10 : Hid (10 < l.event + 1) := h10
      clear h10
      go_enter Tryz.func162, Tryz.ntmps162
      go_wp2_with fail
      refine bodyPost_ret (results_none rfl _ _ _) rfl ⟨rfl, s, ?_⟩
      rw [HP.out, if_pos H10.out]
      exact (((((LNext.refl H.out).put (l2 := { l with lines := l.lines + 1 }) 1 _ rfl rfl rfl rfl).put (l2 := { l with lines := l.lines + 1, event := l.event + 1 }) 7 _ rfl rfl rfl rfl).put (l2 := { l with lines := l.lines + 1, event := l.event + 1, want := 1 }) 0 _ rfl rfl rfl rfl).put (l2 := { l with lines := l.lines + 1, event := l.event + 1, want := 1, e := 3 }) 3 _ rfl rfl rfl rfl).aside ((Below.refl _ _).alloc (Nat.le_refl _) _)
    · have hI : ¬ (10 : Int) < (l.event : Int) + 1 := by omega
      have H10 : Hid (¬ 10 < l.event + 1) := h10
      clear h10
      go_enter Tryz.func162, Tryz.ntmps162
      go_wp2_with fail
      refine bodyPost_ret (results_none rfl _ _ _) rfl ⟨rfl, s, ?_⟩
      rw [HP.out, if_neg H10.out]
      exact ((((LNext.refl H.out).put (l2 := { l with lines := l.lines + 1 }) 1 _ rfl rfl rfl rfl).put (l2 := { l with lines := l.lines + 1, event := l.event + 1 }) 7 _ rfl rfl rfl rfl).put (l2 := { l with lines := l.lines + 1, event := l.event + 1, want := 1 }) 0 _ rfl rfl rfl rfl).aside ((Below.refl _ _).alloc (Nat.le_refl _) _)
end Go.Proofs.YtjmcokcdaddpcaaGreatDoor
