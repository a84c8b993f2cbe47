import Derived.Test.YtjmcokcdaddpcaaGreatDoorRdG
set_option linter.unusedVariables false
set_option linter.unusedSimpArgs false
namespace Go.Proofs.YtjmcokcdaddpcaaGreatDoor
open Go.RowKit
set_option maxRecDepth 100000 in
set_option maxHeartbeats 3200000 in
theorem rule_any {B b : Nat} {w : World} {t : ByteArray} {r : Dsr.Rd} {s : St} (h : RdAt B b w t r s) (hs : t.size ≤ 400) (ho : r.ok t.data.toList) (hS : SignsIn w) (hu : r.uses.length ≤ 800) (he20 : r.rules.length ≤ 20) :
    Calls Tryz.prog 100 #[ptr b] w fun x w' => x = .returned (.tuple #[]) ∧ ∃ s', ESt B b w t s w' (Dsr.rule t.data.toList r) s' := by
  obtain ⟨c0, c1, c2, c3, c4, c5, c6, c7, c8, c9, fz⟩ := h.cells
  obtain ⟨av, cv, hvr⟩ := owned_shape h.rls
  have H : Hid (RdAt B b w t r s) := h
  have HS : Hid (SignsIn w) := hS
  have HO : Hid (r.ok t.data.toList) := ho
  have hlt := h.lt
  have hB : B ≤ w.heap.size := by have := h.low; omega
  have nL0 : ¬ Mine b s w.heap.size := fun hm => by have := h.mine hm; omega
  clear h hS ho c0 c1 c2 c3 c4 c5 c7 c8 c9
  by_cases h20 : r.rules.length = 20
  · have hb : ((r.rules.length : Int) == 20) = true := by simp [h20]
    have H20 : Hid (r.rules.length = 20) := h20
    clear h20
    go_enter Tryz.func100, Tryz.ntmps100
    go_wp2_with fail
    refine (refuse_any 3 H.out hs).mono ?_
    rintro e w1 ⟨rfl, R1, K1⟩
    have H1 : Hid (RdAt B b w1 t (Dsr.refuse t.data.toList r 3) s ∧ Kp (· = b) w w1) := ⟨R1, K1⟩
    clear R1 K1
    go_wp2_with fail
    have M := MSt.ofB H1.out.1 H1.out.2
    refine bodyPost_ret (results_none rfl _ _ _) rfl ?_
    exact ⟨rfl, s, by rw [Dsr.rule, if_pos H20.out]; exact ⟨M.rd, M.kp, M.mine⟩⟩
  · have hb : ((r.rules.length : Int) == 20) = false := by simp; omega
    have H20 : Hid (¬ r.rules.length = 20) := h20
    clear h20
    go_enter Tryz.func100, Tryz.ntmps100
    go_wp2_with fail
    have A0 : Hid (MSt B b w t s (w.alloc (.cells #[.string ⟨#[]⟩, .string ⟨#[]⟩, .int .u8 0] 150)) r s) := (MSt.refl H.out).aside ((Kp.refl (fun _ => False) _).alloc _) (fun _ h => h.elim) H.out.rvLt
    refine (name_m 2 A0.out.rd hs HO.out (A0.out.signs H.out HS.out) (by omega)).mono ?_
    rintro e w1 ⟨rfl, s1, M1⟩
    obtain ⟨L1, nL1, z1⟩ := M1.keepL (L := w.heap.size) (by simp) nL0
    have q1 := L1.trans (heap_alloc_new w _)
    obtain ⟨a0, a1, a2, fa⟩ := cells3 q1
    have ok1 := Dsr.name_ok HO.out 2
    have hl1 := Dsr.name_lists t.data.toList r 2
    have H1 : Hid (MSt B b w t s w1 (Dsr.name t.data.toList r 2) s1 ∧ w1.heap[w.heap.size]? = some (.cells #[.string ⟨#[]⟩, .string ⟨#[]⟩, .int .u8 0] 150 (0, 0))) := ⟨A0.out.trans M1, q1⟩
    clear M1 L1 q1
    generalize hr1 : Dsr.name t.data.toList r 2 = r1 at *
    have Hr1 : Hid (Dsr.name t.data.toList r 2 = r1) := hr1
    have Hl1 : Hid (r1.events = r.events ∧ r1.rules = r.rules ∧ r1.uses.length = r.uses.length + 1) := hl1
    clear hr1 hl1
    obtain ⟨c0, c1, c2, c3, c4, c5, c6', c7, c8, c9, fz1⟩ := H1.out.1.rd.cells
    have hlt1 := H1.out.1.rd.lt
    have n1 : ¬ w.heap.size = b := fun e => nL1 (.inl e)
    have n2 : ¬ b = w.heap.size := fun e => n1 e.symm
    clear c0 c1 c3 c4 c5 c6' c7 c8 c9
    go_wp2_with fail
    have A1 : Hid (MSt B b w t s ((w1.setCell ⟨w.heap.size, 0, none⟩ (strV r.now.text)).setCell ⟨w.heap.size, 2, none⟩ (.int .u8 r1.now.rule)) r1 s1) := H1.out.1.aside (((Kp.refl (fun k => k = w.heap.size) _).setCell (.inl rfl) _).setCell (.inl rfl) _) (fun k h => by subst h; exact ⟨Nat.le_refl _, nL1⟩) H.out.rvLt
    refine (take_any 9 A1.out.rd hs ok1 (A1.out.signs H.out HS.out)).mono ?_
    rintro e w2 ⟨rfl, R2, K2⟩
    have M2 := MSt.ofB R2 K2
    obtain ⟨L2, nL2, z2⟩ := M2.keepL (L := w.heap.size) (by simpa using z1) nL1
    have q2 := L2.trans (blk_set (blk_set H1.out.2 0 (strV r.now.text)) 2 (.int .u8 r1.now.rule))
    simp only [List.setIfInBounds_toArray, List.set_cons_succ, List.set_cons_zero] at q2
    have ok2 := Dsr.take_ok ok1 9
    have hl2 := Dsr.take_lists t.data.toList r1 9
    have H2 : Hid (MSt B b w t s w2 (Dsr.take t.data.toList r1 9) s1 ∧ w2.heap[w.heap.size]? = some (.cells #[strV r.now.text, .string ⟨#[]⟩, .int .u8 r1.now.rule] 150 (0, 0))) := ⟨A1.out.trans M2, q2⟩
    clear R2 K2 M2 L2 q2 a0 a1 a2 fa c2 fz1
    generalize hr2 : Dsr.take t.data.toList r1 9 = r2 at *
    have Hr2 : Hid (Dsr.take t.data.toList r1 9 = r2) := hr2
    have Hl2 : Hid (r2.events = r1.events ∧ r2.rules = r1.rules ∧ r2.uses = r1.uses) := hl2
    clear hr2 hl2
    go_wp2_with fail
    have hu2 : r2.uses.length ≤ 1000 := by rw [Hl2.out.2.2, Hl1.out.2.2]; omega
    refine (name_m 2 H2.out.1.rd hs ok2 (H2.out.1.signs H.out HS.out) hu2).mono ?_
    rintro e w3 ⟨rfl, s3, M3⟩
    obtain ⟨L3, nL3, z3⟩ := M3.keepL z2 nL2
    have q3 := L3.trans H2.out.2
    obtain ⟨a0, a1, a2, fa⟩ := cells3 q3
    have ok3 := Dsr.name_ok ok2 2
    have hl3 := Dsr.name_lists t.data.toList r2 2
    have H3 : Hid (MSt B b w t s w3 (Dsr.name t.data.toList r2 2) s3 ∧ w3.heap[w.heap.size]? = some (.cells #[strV r.now.text, .string ⟨#[]⟩, .int .u8 r1.now.rule] 150 (0, 0))) := ⟨H2.out.1.trans M3, q3⟩
    clear M3 L3 q3
    generalize hr3 : Dsr.name t.data.toList r2 2 = r3 at *
    have Hr3 : Hid (Dsr.name t.data.toList r2 2 = r3) := hr3
    have Hl3 : Hid (r3.events = r2.events ∧ r3.rules = r2.rules ∧ r3.uses.length = r2.uses.length + 1) := hl3
    clear hr3 hl3
    go_wp2_with fail
    have A3 : Hid (MSt B b w t s (w3.setCell ⟨w.heap.size, 1, none⟩ (strV r2.now.text)) r3 s3) := H3.out.1.aside ((Kp.refl (fun k => k = w.heap.size) _).setCell (.inl rfl) _) (fun k h => by subst h; exact ⟨Nat.le_refl _, nL3⟩) H.out.rvLt
    refine (take_any 8 A3.out.rd hs ok3 (A3.out.signs H.out HS.out)).mono ?_
    rintro e w6 ⟨rfl, R6, K6⟩
    have M6 := MSt.ofB R6 K6
    obtain ⟨L6, nL6, z6⟩ := M6.keepL (L := w.heap.size) (by simpa using z3) nL3
    have q6 := L6.trans (blk_set H3.out.2 1 (strV r2.now.text))
    simp only [List.setIfInBounds_toArray, List.set_cons_succ, List.set_cons_zero] at q6
    clear a0 a1 a2 fa
    obtain ⟨a0, a1, a2, fa⟩ := cells3 q6
    have hl6 := Dsr.take_lists t.data.toList r3 8
    have H6 : Hid (MSt B b w t s w6 (Dsr.take t.data.toList r3 8) s3) := A3.out.trans M6
    clear R6 K6 M6 L6 q6
    generalize hr6 : Dsr.take t.data.toList r3 8 = r6 at *
    have Hr6 : Hid (Dsr.take t.data.toList r3 8 = r6) := hr6
    have he6 : r6.rules = r.rules := by rw [hl6.2.1, Hl3.out.2.1, Hl2.out.2.1, Hl1.out.2.1]
    have HE6 : Hid (r6.rules = r.rules) := he6
    have w6e := H6.out.rd.rls
    rw [he6] at w6e
    have HEv : Hid (w6.ownsRow B 150 3 s3.vr r.rules.length (r.rules.flatMap rlC)) := w6e
    have hvr3 : s3.vr = Value.slice av r.rules.length cv := H6.out.vr.trans hvr
    have hlt6 := H6.out.rd.lt
    obtain ⟨c0, c1, c2, c3, c4, c5, c6', c7, c8, c9, fz6⟩ := H6.out.rd.cells
    obtain ⟨i0, hi, hz0, hz1, hz2⟩ := info_parts Tryz.infoRule
    have hw6 : w.heap.size ≤ w6.heap.size := H6.out.kp.size
    clear hr6 hl6 he6 w6e c0 c1 c2 c3 c4 c5 c7 c8 c9 c6 fz
    go_wp2_with fail
    go_region_law (refine step_append_lies _ rfl (.tmp 33) (.tmp 35) 89 rfl B 150 i0 _ 3 40 Tryz.underlying89 hi hz0 hz1 hz2 rfl (by decide) s3.vr r.rules.length _ (by simp [Act.eval, Act.put, hvr3]) (by first | exact HEv.out.alloc _ | exact (HEv.out.alloc _).drew) ⟨w6.heap.size, 0, none⟩ 1 1 (rlC ⟨r.now.text, r2.now.text, r1.now.rule⟩) (by simp [Act.eval, Act.put]) rfl (by exact news_lit) (one_rl _) (by decide) (by unfold maxLen; omega) (by omega) (by simp; omega) _ rfl ?_; intro g cap w7 hown hgrow hat hlt7; obtain ⟨HM, e5, f5⟩ := after_rule H6.out.rd HE6.out hown (grown_drew hgrow) hat)
    all_goals
      go_wp2_with fail
      go_end0
      obtain ⟨s7, E7⟩ := HM.out
      refine ⟨rfl, s7, ?_⟩
      have eq : Dsr.rule t.data.toList r = { r6 with rules := r.rules ++ [⟨r.now.text, r2.now.text, r1.now.rule⟩] } := by
        have h1 : Dsr.ruHead t.data.toList r = r2 := by rw [Dsr.ruHead, Hr1.out, Hr2.out]
        have h2 : Dsr.ruBody t.data.toList r = r6 := by rw [Dsr.ruBody, h1, Hr3.out, Hr6.out]
        have h3 : Dsr.ruOf t.data.toList r = ⟨r.now.text, r2.now.text, r1.now.rule⟩ := by rw [Dsr.ruOf, h1, Hr1.out]
        rw [Dsr.rule, if_neg H20.out, h2, h3, HE6.out]
      rw [eq]
      exact H6.out.then E7
end Go.Proofs.YtjmcokcdaddpcaaGreatDoor
