import Derived.Test.YtjmcokcdaddpcaaGreatDoorUm
import Derived.Test.YtjmcokcdaddpcaaGreatDoorUa
set_option linter.unusedVariables false
set_option linter.unusedSimpArgs false
namespace Go.Proofs.YtjmcokcdaddpcaaGreatDoor
open Go.RowKit
set_option maxRecDepth 100000 in
set_option maxHeartbeats 3200000 in
theorem rule_any {B b : Nat} {w : World} {t : ByteArray} {r : Dsr.Rd} {s : St} (h : RdAt B b w t r s) (hs : t.size ≤ 400) (ho : r.ok t.data.toList) (hS : SignsIn w) (hu : r.uses.length ≤ 800) (he20 : r.rules.length ≤ 20) :
    Calls Tryz.prog 100 #[ptr b] w fun x w' => x = .returned (.tuple #[]) ∧ ∃ s', ESt B b w t s w' (Dsr.rule t.data.toList r) s' := by
  obtain ⟨c0, c1, c2, c3, c4, c5, c6, c7, c8, c9, fz⟩ := h.cells
  obtain ⟨av, cv, hvr⟩ := owned_shape h.rls
  have H : Hid (RdAt B b w t r s) := h
  have HS : Hid (SignsIn w) := hS
  have HO : Hid (r.ok t.data.toList) := ho
  have hlt := h.lt
  have hB : B ≤ w.heap.size := by have := h.low; omega
  have nL0 : ¬ Mine b s w.heap.size := fun hm => by have := h.mine hm; omega
  clear h hS ho c0 c1 c2 c3 c4 c5 c7 c8 c9
  by_cases h20 : r.rules.length = 20
  · have hb : ((r.rules.length : Int) == 20) = true := by simp [h20]
    have H20 : Hid (r.rules.length = 20) := h20
    clear h20
    go_enter Tryz.func100, Tryz.ntmps100
    go_wp2_with fail
    refine (refuse_any 3 H.out hs).mono ?_
    rintro e w1 ⟨rfl, R1, K1⟩
    have H1 : Hid (RdAt B b w1 t (Dsr.refuse t.data.toList r 3) s ∧ Kp (· = b) w w1) := ⟨R1, K1⟩
    clear R1 K1
    go_wp2_with fail
    have M := MSt.ofB H1.out.1 H1.out.2
    refine bodyPost_ret (results_none rfl _ _ _) rfl ?_
    exact ⟨rfl, s, by rw [Dsr.rule, if_pos H20.out]; exact ⟨M.rd, M.kp, M.mine⟩⟩
  · have hb : ((r.rules.length : Int) == 20) = false := by simp; omega
    have H20 : Hid (¬ r.rules.length = 20) := h20
    clear h20
    go_enter Tryz.func100, Tryz.ntmps100
    go_wp2_with fail
    have A0 : Hid (MSt B b w t s (w.alloc (.cells #[.string ⟨#[]⟩, .string ⟨#[]⟩, .int .u8 0] 150)) r s) := (MSt.refl H.out).aside ((Kp.refl (fun _ => False) _).alloc _) (fun _ h => h.elim) H.out.rvLt
    refine (name_m 2 A0.out.rd hs HO.out (A0.out.signs H.out HS.out) (by omega)).mono ?_
    rintro e w1 ⟨rfl, s1, M1⟩
    obtain ⟨L1, nL1, z1⟩ := M1.keepL (L := w.heap.size) (by simp) nL0
    have q1 := L1.trans (heap_alloc_new w _)
    obtain ⟨a0, a1, a2, fa⟩ := cells3 q1
    have ok1 := Dsr.name_ok HO.out 2
    have hl1 := Dsr.name_lists t.data.toList r 2
    have H1 : Hid (MSt B b w t s w1 (Dsr.name t.data.toList r 2) s1 ∧ w1.heap[w.heap.size]? = some (.cells #[.string ⟨#[]⟩, .string ⟨#[]⟩, .int .u8 0] 150 (0, 0))) := ⟨A0.out.trans M1, q1⟩
    clear M1 L1 q1
    generalize hr1 : Dsr.name t.data.toList r 2 = r1 at *
    have Hr1 : Hid (Dsr.name t.data.toList r 2 = r1) := hr1
    have Hl1 : Hid (r1.events = r.events ∧ r1.rules = r.rules ∧ r1.uses.length = r.uses.length + 1) := hl1
    clear hr1 hl1
    obtain ⟨c0, c1, c2, c3, c4, c5, c6', c7, c8, c9, fz1⟩ := H1.out.1.rd.cells
    have hlt1 := H1.out.1.rd.lt
    have n1 : ¬ w.heap.size = b := fun e => nL1 (.inl e)
    have n2 : ¬ b = w.heap.size := fun e => n1 e.symm
    clear c0 c1 c3 c4 c5 c6' c7 c8 c9
    go_wp2_with fail
    have A1 : Hid (MSt B b w t s ((w1.setCell ⟨w.heap.size, 0, none⟩ (strV r.now.text)).setCell ⟨w.heap.size, 2, none⟩ (.int .u8 r1.now.rule)) r1 s1) := H1.out.1.aside (((Kp.refl (fun k => k = w.heap.size) _).setCell (.inl rfl) _).setCell (.inl rfl) _) (fun k h => by subst h; exact ⟨Nat.le_refl _, nL1⟩) H.out.rvLt
    refine (take_any 9 A1.out.rd hs ok1 (A1.out.signs H.out HS.out)).mono ?_
    rintro e w2 ⟨rfl, R2, K2⟩
    have M2 := MSt.ofB R2 K2
    obtain ⟨L2, nL2, z2⟩ := M2.keepL (L := w.heap.size) (by simpa using z1) nL1
    have q2 := L2.trans (blk_set (blk_set H1.out.2 0 (strV r.now.text)) 2 (.int .u8 r1.now.rule))
    simp only [List.setIfInBounds_toArray, List.set_cons_succ, List.set_cons_zero] at q2
    have ok2 := Dsr.take_ok ok1 9
    have hl2 := Dsr.take_lists t.data.toList r1 9
    have H2 : Hid (MSt B b w t s w2 (Dsr.take t.data.toList r1 9) s1 ∧ w2.heap[w.heap.size]? = some (.cells #[strV r.now.text, .string ⟨#[]⟩, .int .u8 r1.now.rule] 150 (0, 0))) := ⟨A1.out.trans M2, q2⟩
    clear R2 K2 M2 L2 q2 a0 a1 a2 fa c2 fz1
    generalize hr2 : Dsr.take t.data.toList r1 9 = r2 at *
    have Hr2 : Hid (Dsr.take t.data.toList r1 9 = r2) := hr2
    have Hl2 : Hid (r2.events = r1.events ∧ r2.rules = r1.rules ∧ r2.uses = r1.uses) := hl2
    clear hr2 hl2
    go_wp2_with fail
    have hu2 : r2.uses.length ≤ 1000 := by rw [Hl2.out.2.2, Hl1.out.2.2]; omega
    refine (name_m 2 H2.out.1.rd hs ok2 (H2.out.1.signs H.out HS.out) hu2).mono ?_
    rintro e w3 ⟨rfl, s3, M3⟩
    obtain ⟨L3, nL3, z3⟩ := M3.keepL z2 nL2
    have q3 := L3.trans H2.out.2
    obtain ⟨a0, a1, a2, fa⟩ := cells3 q3
    have ok3 := Dsr.name_ok ok2 2
    have hl3 := Dsr.name_lists t.data.toList r2 2
    have H3 : Hid (MSt B b w t s w3 (Dsr.name t.data.toList r2 2) s3 ∧ w3.heap[w.heap.size]? = some (.cells #[strV r.now.text, .string ⟨#[]⟩, .int .u8 r1.now.rule] 150 (0, 0))) := ⟨H2.out.1.trans M3, q3⟩
    clear M3 L3 q3
    generalize hr3 : Dsr.name t.data.toList r2 2 = r3 at *
    have Hr3 : Hid (Dsr.name t.data.toList r2 2 = r3) := hr3
    have Hl3 : Hid (r3.events = r2.events ∧ r3.rules = r2.rules ∧ r3.uses.length = r2.uses.length + 1) := hl3
    clear hr3 hl3
    go_wp2_with fail
    have A3 : Hid (MSt B b w t s (w3.setCell ⟨w.heap.size, 1, none⟩ (strV r2.now.text)) r3 s3) := H3.out.1.aside ((Kp.refl (fun k => k = w.heap.size) _).setCell (.inl rfl) _) (fun k h => by subst h; exact ⟨Nat.le_refl _, nL3⟩) H.out.rvLt
    refine (take_any 8 A3.out.rd hs ok3 (A3.out.signs H.out HS.out)).mono ?_
    rintro e w6 ⟨rfl, R6, K6⟩
    have M6 := MSt.ofB R6 K6
    obtain ⟨L6, nL6, z6⟩ := M6.keepL (L := w.heap.size) (by simpa using z3) nL3
    have q6 := L6.trans (blk_set H3.out.2 1 (strV r2.now.text))
    simp only [List.setIfInBounds_toArray, List.set_cons_succ, List.set_cons_zero] at q6
    clear a0 a1 a2 fa
    obtain ⟨a0, a1, a2, fa⟩ := cells3 q6
    have hl6 := Dsr.take_lists t.data.toList r3 8
    have H6 : Hid (MSt B b w t s w6 (Dsr.take t.data.toList r3 8) s3) := A3.out.trans M6
    clear R6 K6 M6 L6 q6
    generalize hr6 : Dsr.take t.data.toList r3 8 = r6 at *
    have Hr6 : Hid (Dsr.take t.data.toList r3 8 = r6) := hr6
    have he6 : r6.rules = r.rules := by rw [hl6.2.1, Hl3.out.2.1, Hl2.out.2.1, Hl1.out.2.1]
    have HE6 : Hid (r6.rules = r.rules) := he6
    have w6e := H6.out.rd.rls
    rw [he6] at w6e
    have HEv : Hid (w6.ownsRow B 150 3 s3.vr r.rules.length (r.rules.flatMap rlC)) := w6e
    have hvr3 : s3.vr = Value.slice av r.rules.length cv := H6.out.vr.trans hvr
    have hlt6 := H6.out.rd.lt
    obtain ⟨c0, c1, c2, c3, c4, c5, c6', c7, c8, c9, fz6⟩ := H6.out.rd.cells
    obtain ⟨i0, hi, hz0, hz1, hz2⟩ := info_parts Tryz.infoRule
    have hw6 : w.heap.size ≤ w6.heap.size := H6.out.kp.size
    clear hr6 hl6 he6 w6e c0 c1 c2 c3 c4 c5 c7 c8 c9 c6 fz
    go_wp2_with fail
    go_region_law (refine step_append_lies _ rfl (.tmp 33) (.tmp 35) 89 rfl B 150 i0 _ 3 40 Tryz.underlying89 hi hz0 hz1 hz2 rfl (by decide) s3.vr r.rules.length _ (by simp [Act.eval, Act.put, hvr3]) (by first | exact HEv.out.alloc _ | exact (HEv.out.alloc _).drew) ⟨w6.heap.size, 0, none⟩ 1 1 (rlC ⟨r.now.text, r2.now.text, r1.now.rule⟩) (by simp [Act.eval, Act.put]) rfl (by exact news_lit) (one_rl _) (by decide) (by unfold maxLen; omega) (by omega) (by simp; omega) _ rfl ?_; intro g cap w7 hown hgrow hat hlt7; obtain ⟨HM, e5, f5⟩ := after_rule H6.out.rd HE6.out hown (grown_drew hgrow) hat)
    all_goals
      go_wp2_with fail
      go_end0
      obtain ⟨s7, E7⟩ := HM.out
      refine ⟨rfl, s7, ?_⟩
      have eq : Dsr.rule t.data.toList r = { r6 with rules := r.rules ++ [⟨r.now.text, r2.now.text, r1.now.rule⟩] } := by
        have h1 : Dsr.ruHead t.data.toList r = r2 := by rw [Dsr.ruHead, Hr1.out, Hr2.out]
        have h2 : Dsr.ruBody t.data.toList r = r6 := by rw [Dsr.ruBody, h1, Hr3.out, Hr6.out]
        have h3 : Dsr.ruOf t.data.toList r = ⟨r.now.text, r2.now.text, r1.now.rule⟩ := by rw [Dsr.ruOf, h1, Hr1.out]
        rw [Dsr.rule, if_neg H20.out, h2, h3, HE6.out]
      rw [eq]
      exact H6.out.then E7
end Go.Proofs.YtjmcokcdaddpcaaGreatDoor
set_option linter.unusedVariables false
set_option linter.unusedSimpArgs false
namespace Go.Proofs.YtjmcokcdaddpcaaGreatDoor
open Go.RowKit
theorem ESt.trans {B b : Nat} {w w1 w2 : World} {t : ByteArray} {s s1 s2 : St} {r1 r2 : Dsr.Rd} (h : ESt B b w t s w1 r1 s1) (h' : ESt B b w1 t s1 w2 r2 s2) : ESt B b w t s w2 r2 s2 :=
  ⟨h'.rd, h.kp.trans h'.kp h.mine, fun k hk => by
    rcases h'.mine k hk with h1 | h1
    · exact h.mine k h1
    · right; have := h.kp.size; omega⟩
theorem ESt.ofB {B b : Nat} {w w' : World} {t : ByteArray} {s : St} {r' : Dsr.Rd} (h : RdAt B b w' t r' s) (hk : Kp (· = b) w w') : ESt B b w t s w' r' s :=
  ⟨h, hk.mono (fun k e => .inl (.inl e)), fun k e => .inl e⟩
theorem ESt.signs {B b : Nat} {w w' : World} {t : ByteArray} {s s' : St} {r r' : Dsr.Rd} (h : ESt B b w t s w' r' s') (h0 : RdAt B b w t r s) (hS : SignsIn w) : SignsIn w' :=
  hS.kp h.kp (fun hm => by have := h0.mine hm; have := h0.pos; omega)
set_option maxRecDepth 100000 in
set_option maxHeartbeats 1600000 in
theorem lines_any {B b : Nat} {w : World} {t : ByteArray} {s : St} (h : RdAt B b w t (Dsr.newRd t.data.toList) s) (hs : t.size ≤ 400) (hS : SignsIn w) :
    Calls Tryz.prog 64 #[ptr b] w fun x w' => x = .returned (.tuple #[]) ∧ ∃ s', ESt B b w t s w' (Dsr.lines t.data.toList 32 (Dsr.newRd t.data.toList)) s' := by
  have H : Hid (RdAt B b w t (Dsr.newRd t.data.toList) s) := h
  have HS : Hid (SignsIn w) := hS
  clear h hS
  go_enter Tryz.func64, Tryz.ntmps64
  go_wp2_with fail
  go_loopg [] (Dsr.left (Dsr.newRd t.data.toList)) (fun k wr => ∃ f r' s', ESt B b w t s wr r' s' ∧ Dsr.Fine t.data.toList (Dsr.newRd t.data.toList) f r' ∧ k = Dsr.left r')
  case atStart => exact ⟨32, _, s, ESt.ofB H.out (Kp.refl _ _), Dsr.Fine.start _ (by simpa using hs), rfl⟩
  case round =>
    obtain ⟨f, r', s', E', F', hk⟩ := hrel
    obtain ⟨c0, c1, c2, c3, c4, c5, c6, c7, c8, c9, fz⟩ := E'.rd.cells
    clear c0 c2 c3 c4 c5 c6 c7 c8 c9
    by_cases h10 : r'.now.kind = 10
    · have hb : ((r'.now.kind : Int) != 10) = false := by simp [h10]
      have HE : Hid (Dsr.lines t.data.toList 32 (Dsr.newRd t.data.toList) = r') := by show _ = _; rw [← F'.eq, Dsr.lines_end _ _ _ h10]
      have H1 : Hid (ESt B b w t s wr r' s') := E'
      clear E' F' h10 hk
      go_wp2_with fail
      go_end0
      exact ⟨rfl, s', by rw [HE.out]; exact H1.out⟩
    · have hb : ((r'.now.kind : Int) != 10) = true := by simp; omega
      obtain ⟨g, rfl⟩ := F'.pos h10
      have hu := F'.us
      have hev := F'.ev
      have hru := F'.ru
      have HH : Hid (ESt B b w t s wr r' s' ∧ Dsr.Fine t.data.toList (Dsr.newRd t.data.toList) (g + 1) r' ∧ gk = Dsr.left r') := ⟨E', F', hk⟩
      have H10 : Hid (¬ r'.now.kind = 10) := h10
      clear E' F' hk h10
      by_cases h2 : r'.now.kind = 2
      · have hb2 : ((r'.now.kind : Int) == 2) = true := by simp [h2]
        have H2 : Hid (r'.now.kind = 2) := h2
        clear h2
        go_wp2_with fail
        refine (event_any HH.out.1.rd hs HH.out.2.1.ok (HH.out.1.signs H.out HS.out) (by omega) hev).mono ?_
        rintro e w1 ⟨rfl, s1, E1⟩
        obtain ⟨F1, l1⟩ := HH.out.2.1.onEvent H2.out
        have hg := HH.out.2.2
        have H1 : Hid (ESt B b w t s w1 (Dsr.event t.data.toList r') s1 ∧ Dsr.Fine t.data.toList (Dsr.newRd t.data.toList) g (Dsr.event t.data.toList r') ∧ Dsr.left (Dsr.event t.data.toList r') < gk) := ⟨HH.out.1.trans E1, F1, by rw [hg]; exact l1⟩
        clear E1 F1 l1 hg
        go_wp2_with fail
        go_roundg (Dsr.left (Dsr.event t.data.toList r'))
        case measure => exact H1.out.2.2
        case rel => exact ⟨g, _, s1, H1.out.1, H1.out.2.1, rfl⟩
      · have hb2 : ((r'.now.kind : Int) == 2) = false := by simp; omega
        have H2 : Hid (¬ r'.now.kind = 2) := h2
        clear h2
        by_cases h1 : r'.now.kind = 1
        · have hb1 : ((r'.now.kind : Int) == 1) = true := by simp [h1]
          have H1' : Hid (r'.now.kind = 1) := h1
          clear h1
          go_wp2_with fail
          refine (rule_any HH.out.1.rd hs HH.out.2.1.ok (HH.out.1.signs H.out HS.out) (by omega) hru).mono ?_
          rintro e w1 ⟨rfl, s1, E1⟩
          obtain ⟨F1, l1⟩ := HH.out.2.1.onRule H1'.out
          have hg := HH.out.2.2
          have H1 : Hid (ESt B b w t s w1 (Dsr.rule t.data.toList r') s1 ∧ Dsr.Fine t.data.toList (Dsr.newRd t.data.toList) g (Dsr.rule t.data.toList r') ∧ Dsr.left (Dsr.rule t.data.toList r') < gk) := ⟨HH.out.1.trans E1, F1, by rw [hg]; exact l1⟩
          clear E1 F1 l1 hg
          go_wp2_with fail
          go_roundg (Dsr.left (Dsr.rule t.data.toList r'))
          case measure => exact H1.out.2.2
          case rel => exact ⟨g, _, s1, H1.out.1, H1.out.2.1, rfl⟩
        · have hb1 : ((r'.now.kind : Int) == 1) = false := by simp; omega
          have H1' : Hid (¬ r'.now.kind = 1) := h1
          clear h1
          go_wp2_with fail
          refine (refuse_any 2 HH.out.1.rd hs).mono ?_
          rintro e w1 ⟨rfl, R1, K1⟩
          obtain ⟨F1, l1⟩ := HH.out.2.1.onElse H10.out H2.out H1'.out
          have hg := HH.out.2.2
          have H1 : Hid (ESt B b w t s w1 (Dsr.refuse t.data.toList r' 2) s' ∧ Dsr.Fine t.data.toList (Dsr.newRd t.data.toList) g (Dsr.refuse t.data.toList r' 2) ∧ Dsr.left (Dsr.refuse t.data.toList r' 2) < gk) := ⟨HH.out.1.trans (ESt.ofB R1 K1), F1, by rw [hg]; exact l1⟩
          clear R1 K1 F1 l1 hg
          go_wp2_with fail
          go_roundg (Dsr.left (Dsr.refuse t.data.toList r' 2))
          case measure => exact H1.out.2.2
          case rel => exact ⟨g, _, s', H1.out.1, H1.out.2.1, rfl⟩
/-- A new reader. -/
def rd0St : St := ⟨.slice none 0 0, .slice none 0 0, .slice none 0 0, []⟩
set_option maxRecDepth 100000 in
set_option maxHeartbeats 1600000 in
theorem newReader_any {w : World} {t : ByteArray} (hs : t.size ≤ 400) (hS : SignsIn w) :
    Calls Tryz.prog 63 #[.string t] w fun x w' => ∃ b, x = .returned (ptr b) ∧ w.heap.size ≤ b ∧ RdAt w.heap.size b w' t (Dsr.newRd t.data.toList) rd0St ∧ Below w.heap.size w w' := by
  have HS : Hid (SignsIn w) := hS
  clear hS
  go_enter Tryz.func63, Tryz.ntmps63
  go_wp2_with fail
  refine (scan_at t 0 0 _ rfl hs (Nat.zero_le _) HS.out).mono ?_
  rintro e w1 ⟨rfl, hb⟩
  have HB : Hid (Below w.heap.size w w1) := hb
  clear hb
  go_wp2_with fail
  go_ret
  have hz := HB.out.size
  have h0 := HS.out.1
  refine ⟨w1.heap.size, rfl, hz, ?_, HB.out.trans (((Below.refl _ _).alloc (by omega) _))⟩
  refine { pos := h0, low := hz, blk := heap_alloc_new _ _, evs := World.ownsRow_nil _ _ _ _, rls := World.ownsRow_nil _ _ _ _, uss := World.ownsRow_nil _ _ _ _, len := rfl, rol := fun i e v h => by simp [Dsr.newRd] at h, apart := ?_ }
  simp [rd0St, Value.ownBlock, Differ]
end Go.Proofs.YtjmcokcdaddpcaaGreatDoor
set_option linter.unusedVariables false
set_option linter.unusedSimpArgs false
namespace Go.Proofs.YtjmcokcdaddpcaaGreatDoor
open Go.RowKit
abbrev usV (u : Dsr.Us) : Value := .agg #[.int .u8 u.as_, .int .i64 u.event, strV u.name, .int .i64 u.at_]
/-- The uses lie in a row: the first n of a slice. -/
def UsIn (w : World) (g : Nat) (us : List Dsr.Us) : Prop := ∃ cur, w.heap[g]? = some (.cells cur 199 (0, 0)) ∧ cur.toList.take (us.length * 4) = us.flatMap usC
theorem UsIn.lt {w : World} {g : Nat} {us : List Dsr.Us} (h : UsIn w g us) : g < w.heap.size := by
  obtain ⟨cur, h1, _⟩ := h
  exact (Array.getElem?_eq_some_iff.1 h1).1
theorem UsIn.below {w w' : World} {g : Nat} {us : List Dsr.Us} (h : UsIn w g us) (hb : Below w.heap.size w w') : UsIn w' g us := by
  have hl := h.lt
  obtain ⟨cur, h1, h2⟩ := h
  exact ⟨cur, by rw [hb.block g hl]; exact h1, h2⟩
theorem UsIn.take {w : World} {g : Nat} {us : List Dsr.Us} (h : UsIn w g us) (n : Nat) (hn : n ≤ us.length) : UsIn w g (us.take n) := by
  obtain ⟨cur, h1, h2⟩ := h
  refine ⟨cur, h1, ?_⟩
  have e : us = us.take n ++ us.drop n := (List.take_append_drop n us).symm
  have hl : ((us.take n).flatMap usC).length = n * 4 := by
    rw [Dsr.flatLen usC 4 (fun _ => rfl)]; simp; omega
  have e2 : us.flatMap usC = (us.take n).flatMap usC ++ (us.drop n).flatMap usC := by rw [← List.flatMap_append, List.take_append_drop]
  have hlen : (us.take n).length = n := by simp; omega
  have e3 : (cur.toList.take (us.length * 4)).take (n * 4) = cur.toList.take (n * 4) := by rw [List.take_take, Nat.min_eq_left (by omega)]
  rw [hlen, ← e3, h2, e2, List.take_left' hl]
theorem us_cells {w : World} {g : Nat} {us : List Dsr.Us} (h : UsIn w g us) {k : Nat} {u : Dsr.Us} (hk : us[k]? = some u) :
    w.cell? ⟨g, k * 4, none⟩ = some (.int .u8 u.as_) ∧ w.cell? ⟨g, k * 4 + 1, none⟩ = some (.int .i64 u.event) ∧ w.cell? ⟨g, k * 4 + 2, none⟩ = some (strV u.name) ∧ w.cell? ⟨g, k * 4 + 3, none⟩ = some (.int .i64 u.at_) := by
  obtain ⟨cur, h1, h2⟩ := h
  have hkl : k < us.length := (List.getElem?_eq_some_iff.1 hk).1
  have key : ∀ j, j < 4 → w.cell? ⟨g, k * 4 + j, none⟩ = (usC u)[j]? := by
    intro j hj
    have e := Dsr.flat4 usC (fun a => rfl) us k u j hk hj
    rw [← h2, List.getElem?_take, if_pos (by omega)] at e
    rw [cell_of_row w g _ cur _ _ h1, ← e]
    simp
  exact ⟨key 0 (by omega), key 1 (by omega), key 2 (by omega), key 3 (by omega)⟩
set_option maxRecDepth 100000 in
set_option maxHeartbeats 1600000 in
theorem defines1_any {W : World} {B : Nat} {nm : List UInt8} (u : Dsr.Us) (hB : B < W.heap.size) (hc : W.cell? ⟨B, 0, none⟩ = some (strV nm)) :
    Calls Tryz.prog 185 #[usV u, ptr B] W fun x w' => x = .returned (.bool (Dsr.isDef nm u)) ∧ Below W.heap.size W w' := by
  by_cases h0 : u.as_ = 0
  · have hb : ((u.as_ : Int) == 0) = true := by simp [h0]
    have H0 : Hid (u.as_ = 0) := h0
    clear h0
    go_enter Tryz.func185, Tryz.ntmps185
    go_wp2_with fail
    go_ret
    exact ⟨ret_bool (by simp [Dsr.isDef, H0.out]), (Below.refl _ _).alloc (Nat.le_refl _) _⟩
  · have hb : ((u.as_ : Int) == 0) = false := by simp; omega
    have H0 : Hid (¬ u.as_ = 0) := h0
    clear h0
    go_enter Tryz.func185, Tryz.ntmps185
    go_wp2_with fail
    go_ret
    exact ⟨ret_bool (by simp [Dsr.isDef, H0.out]), (Below.refl _ _).alloc (Nat.le_refl _) _⟩
set_option maxRecDepth 100000 in
set_option maxHeartbeats 1600000 in
theorem hasRole1_any {W : World} {B E : Nat} {nm : List UInt8} {ev : Nat} (u : Dsr.Us) (hE : E < W.heap.size) (he : W.cell? ⟨E, 0, none⟩ = some (.int .i64 ev)) (hB : B < W.heap.size) (hc : W.cell? ⟨B, 0, none⟩ = some (strV nm)) :
    Calls Tryz.prog 186 #[usV u, ptr E, ptr B] W fun x w' => x = .returned (.bool (Dsr.isRole ev nm u)) ∧ Below W.heap.size W w' := by
  by_cases h0 : u.as_ = 1
  · have hb : ((u.as_ : Int) == 1) = true := by simp [h0]
    have H0 : Hid (u.as_ = 1) := h0
    clear h0
    by_cases h1 : u.event = ev
    · have hb1 : ((u.event : Int) == (ev : Int)) = true := by simp [h1]
      have H1 : Hid (u.event = ev) := h1
      clear h1
      go_enter Tryz.func186, Tryz.ntmps186
      go_wp2_with fail
      go_ret
      exact ⟨ret_bool (by simp [Dsr.isRole, H0.out, H1.out]), (Below.refl _ _).alloc (Nat.le_refl _) _⟩
    · have hb1 : ((u.event : Int) == (ev : Int)) = false := by simp; omega
      have H1 : Hid (¬ u.event = ev) := h1
      clear h1
      go_enter Tryz.func186, Tryz.ntmps186
      go_wp2_with fail
      go_ret
      exact ⟨ret_bool (by simp [Dsr.isRole, H0.out, H1.out]), (Below.refl _ _).alloc (Nat.le_refl _) _⟩
  · have hb : ((u.as_ : Int) == 1) = false := by simp; omega
    have H0 : Hid (¬ u.as_ = 1) := h0
    clear h0
    go_enter Tryz.func186, Tryz.ntmps186
    go_wp2_with fail
    go_ret
    exact ⟨ret_bool (by simp [Dsr.isRole, H0.out]), (Below.refl _ _).alloc (Nat.le_refl _) _⟩
theorem any_snoc {α : Type} (p : α → Bool) (us : List α) (n : Nat) (u : α) (h : us[n]? = some u) : (us.take (n + 1)).any p = ((us.take n).any p || p u) := by
  have hn : n < us.length := (List.getElem?_eq_some_iff.1 h).1
  rw [List.take_succ_eq_append_getElem hn, List.any_append]
  have : us[n] = u := (List.getElem?_eq_some_iff.1 h).2
  simp [this]
theorem any_here {α : Type} (p : α → Bool) (us : List α) (n : Nat) (u : α) (h : us[n]? = some u) (hp : p u = true) : us.any p = true :=
  List.any_eq_true.2 ⟨u, List.mem_of_getElem? h, hp⟩
set_option maxRecDepth 100000 in
set_option maxHeartbeats 1600000 in
theorem index_def {w : World} {g c : Nat} {us : List Dsr.Us} (h : UsIn w g us) (hl : us.length ≤ 1000) {N : Nat} {nm : List UInt8} (hN : N < w.heap.size) (hc : w.cell? ⟨N, 0, none⟩ = some (strV nm)) :
    Calls Tryz.prog 228 #[.slice (some ⟨g, 0, none⟩) us.length c, .func (.func 185) #[] #[ptr N]] w fun x w' => (∃ i : Int, x = .returned (.int .i64 i) ∧ decide (0 ≤ i) = us.any (Dsr.isDef nm)) ∧ Below w.heap.size w w' := by
  have H : Hid (UsIn w g us) := h
  have hz : (us.length : Int) ≤ 1000 := by omega
  have hg : g < w.heap.size := h.lt
  clear h
  go_enter Tryz.func228, Tryz.ntmps228
  go_wp2_with fail
  go_loopg [8] us.length (fun k i wr => ∃ n : Nat, i = .int .i64 n ∧ n + k = us.length ∧ (us.take n).any (Dsr.isDef nm) = false ∧ Below w.heap.size w wr)
  case atStart => exact ⟨0, rfl, by omega, rfl, Below.refl _ _⟩
  case round =>
    obtain ⟨n, rfl, hn, ha, hb⟩ := hrel
    by_cases hlt : n < us.length
    · obtain ⟨u, hu⟩ : ∃ u, us[n]? = some u := ⟨_, List.getElem?_eq_getElem hlt⟩
      obtain ⟨d0, d1, d2, d3⟩ := us_cells (H.out.below hb) hu
      have HH : Hid (us[n]? = some u ∧ (us.take n).any (Dsr.isDef nm) = false ∧ Below w.heap.size w wr) := ⟨hu, ha, hb⟩
      have hzr := hb.size
      clear hu ha hb
      rcases hp : (Dsr.isDef nm) u with _ | _
      · have HP : Hid ((Dsr.isDef nm) u = false) := hp
        clear hp
        go_wp2_with fail
        refine (defines1_any u (Nat.lt_of_lt_of_le hN hzr) ((HH.out.2.2.cell (p := ⟨N, 0, none⟩) hN).trans hc)).mono ?_
        rintro e w1 ⟨rfl, hb1⟩
        rw [HP.out]
        have HB : Hid (Below w.heap.size w w1) := HH.out.2.2.trans (hb1.mono hzr)
        clear hb1
        go_wp2_with fail
        go_roundg (us.length - (n + 1))
        case measure => omega
        case rel => exact ⟨n + 1, by go_num, by omega, by rw [any_snoc _ _ _ _ HH.out.1, HH.out.2.1, HP.out]; rfl, HB.out⟩
      · have HP : Hid ((Dsr.isDef nm) u = true) := hp
        clear hp
        go_wp2_with fail
        refine (defines1_any u (Nat.lt_of_lt_of_le hN hzr) ((HH.out.2.2.cell (p := ⟨N, 0, none⟩) hN).trans hc)).mono ?_
        rintro e w1 ⟨rfl, hb1⟩
        rw [HP.out]
        have HB : Hid (Below w.heap.size w w1) := HH.out.2.2.trans (hb1.mono hzr)
        clear hb1
        go_wp2_with fail
        go_ret
        exact ⟨⟨n, rfl, by rw [any_here _ _ _ _ HH.out.1 HP.out]; simp⟩, HB.out⟩
    · have HH : Hid ((us.take n).any (Dsr.isDef nm) = false ∧ Below w.heap.size w wr) := ⟨ha, hb⟩
      clear ha hb
      go_wp2_with fail
      go_ret
      exact ⟨⟨-1, rfl, by have e := HH.out.1; rw [List.take_of_length_le (by omega)] at e; rw [e]; rfl⟩, HH.out.2⟩
set_option maxRecDepth 100000 in
set_option maxHeartbeats 1600000 in
theorem contains_def {w : World} {g c : Nat} {us : List Dsr.Us} (h : UsIn w g us) (hl : us.length ≤ 1000) {N : Nat} {nm : List UInt8} (hN : N < w.heap.size) (hc : w.cell? ⟨N, 0, none⟩ = some (strV nm)) :
    Calls Tryz.prog 184 #[.slice (some ⟨g, 0, none⟩) us.length c, .func (.func 185) #[] #[ptr N]] w fun x w' => x = .returned (.bool (us.any (Dsr.isDef nm))) ∧ Below w.heap.size w w' := by
  go_enter Tryz.func184, Tryz.ntmps184
  go_wp2_with fail
  refine (index_def h hl hN hc).mono ?_
  rintro e w1 ⟨⟨i, rfl, hi⟩, hb⟩
  have HI : Hid (decide (0 ≤ i) = us.any (Dsr.isDef nm)) := hi
  clear hi
  go_wp2_with fail
  go_ret
  exact ⟨ret_bool HI.out, hb⟩
set_option maxRecDepth 100000 in
set_option maxHeartbeats 1600000 in
theorem index_role {w : World} {g c : Nat} {us : List Dsr.Us} (h : UsIn w g us) (hl : us.length ≤ 1000) {N E : Nat} {nm : List UInt8} {ev : Nat} (hE : E < w.heap.size) (he : w.cell? ⟨E, 0, none⟩ = some (.int .i64 ev)) (hN : N < w.heap.size) (hc : w.cell? ⟨N, 0, none⟩ = some (strV nm)) :
    Calls Tryz.prog 228 #[.slice (some ⟨g, 0, none⟩) us.length c, .func (.func 186) #[] #[ptr E, ptr N]] w fun x w' => (∃ i : Int, x = .returned (.int .i64 i) ∧ decide (0 ≤ i) = us.any (Dsr.isRole ev nm)) ∧ Below w.heap.size w w' := by
  have H : Hid (UsIn w g us) := h
  have hz : (us.length : Int) ≤ 1000 := by omega
  have hg : g < w.heap.size := h.lt
  clear h
  go_enter Tryz.func228, Tryz.ntmps228
  go_wp2_with fail
  go_loopg [8] us.length (fun k i wr => ∃ n : Nat, i = .int .i64 n ∧ n + k = us.length ∧ (us.take n).any (Dsr.isRole ev nm) = false ∧ Below w.heap.size w wr)
  case atStart => exact ⟨0, rfl, by omega, rfl, Below.refl _ _⟩
  case round =>
    obtain ⟨n, rfl, hn, ha, hb⟩ := hrel
    by_cases hlt : n < us.length
    · obtain ⟨u, hu⟩ : ∃ u, us[n]? = some u := ⟨_, List.getElem?_eq_getElem hlt⟩
      obtain ⟨d0, d1, d2, d3⟩ := us_cells (H.out.below hb) hu
      have HH : Hid (us[n]? = some u ∧ (us.take n).any (Dsr.isRole ev nm) = false ∧ Below w.heap.size w wr) := ⟨hu, ha, hb⟩
      have hzr := hb.size
      clear hu ha hb
      rcases hp : (Dsr.isRole ev nm) u with _ | _
      · have HP : Hid ((Dsr.isRole ev nm) u = false) := hp
        clear hp
        go_wp2_with fail
        refine (hasRole1_any u (Nat.lt_of_lt_of_le hE hzr) ((HH.out.2.2.cell (p := ⟨E, 0, none⟩) hE).trans he) (Nat.lt_of_lt_of_le hN hzr) ((HH.out.2.2.cell (p := ⟨N, 0, none⟩) hN).trans hc)).mono ?_
        rintro e w1 ⟨rfl, hb1⟩
        rw [HP.out]
        have HB : Hid (Below w.heap.size w w1) := HH.out.2.2.trans (hb1.mono hzr)
        clear hb1
        go_wp2_with fail
        go_roundg (us.length - (n + 1))
        case measure => omega
        case rel => exact ⟨n + 1, by go_num, by omega, by rw [any_snoc _ _ _ _ HH.out.1, HH.out.2.1, HP.out]; rfl, HB.out⟩
      · have HP : Hid ((Dsr.isRole ev nm) u = true) := hp
        clear hp
        go_wp2_with fail
        refine (hasRole1_any u (Nat.lt_of_lt_of_le hE hzr) ((HH.out.2.2.cell (p := ⟨E, 0, none⟩) hE).trans he) (Nat.lt_of_lt_of_le hN hzr) ((HH.out.2.2.cell (p := ⟨N, 0, none⟩) hN).trans hc)).mono ?_
        rintro e w1 ⟨rfl, hb1⟩
        rw [HP.out]
        have HB : Hid (Below w.heap.size w w1) := HH.out.2.2.trans (hb1.mono hzr)
        clear hb1
        go_wp2_with fail
        go_ret
        exact ⟨⟨n, rfl, by rw [any_here _ _ _ _ HH.out.1 HP.out]; simp⟩, HB.out⟩
    · have HH : Hid ((us.take n).any (Dsr.isRole ev nm) = false ∧ Below w.heap.size w wr) := ⟨ha, hb⟩
      clear ha hb
      go_wp2_with fail
      go_ret
      exact ⟨⟨-1, rfl, by have e := HH.out.1; rw [List.take_of_length_le (by omega)] at e; rw [e]; rfl⟩, HH.out.2⟩
set_option maxRecDepth 100000 in
set_option maxHeartbeats 1600000 in
theorem contains_role {w : World} {g c : Nat} {us : List Dsr.Us} (h : UsIn w g us) (hl : us.length ≤ 1000) {N E : Nat} {nm : List UInt8} {ev : Nat} (hE : E < w.heap.size) (he : w.cell? ⟨E, 0, none⟩ = some (.int .i64 ev)) (hN : N < w.heap.size) (hc : w.cell? ⟨N, 0, none⟩ = some (strV nm)) :
    Calls Tryz.prog 184 #[.slice (some ⟨g, 0, none⟩) us.length c, .func (.func 186) #[] #[ptr E, ptr N]] w fun x w' => x = .returned (.bool (us.any (Dsr.isRole ev nm))) ∧ Below w.heap.size w w' := by
  go_enter Tryz.func184, Tryz.ntmps184
  go_wp2_with fail
  refine (index_role h hl hE he hN hc).mono ?_
  rintro e w1 ⟨⟨i, rfl, hi⟩, hb⟩
  have HI : Hid (decide (0 ≤ i) = us.any (Dsr.isRole ev nm)) := hi
  clear hi
  go_wp2_with fail
  go_ret
  exact ⟨ret_bool HI.out, hb⟩
end Go.Proofs.YtjmcokcdaddpcaaGreatDoor
