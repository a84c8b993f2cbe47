import Derived.Test.YtjmcokcdaddpcaaGreatDoorGrJ
set_option linter.unusedVariables false
set_option linter.unusedSimpArgs false
namespace Go.Proofs.YtjmcokcdaddpcaaGreatDoor
open Go.RowKit
theorem far2 {B b : Nat} {w w1 w3 : World} {l l2 : LK} {s : LS} {o : Obj} (h : LkAt B b w l s) (hl : lkRows l2 s = lkRows l s) (hk : Kp (LMine b l2 s) w1 w3) (hq : w1.heap[w.heap.size]? = some o) : w3.heap[w.heap.size]? = some o := by
  have hlt : w.heap.size < w1.heap.size := by
    rcases Nat.lt_or_ge w.heap.size w1.heap.size with h | h
    · exact h
    · rw [Array.getElem?_eq_none h] at hq; cases hq
  rw [hk.block w.heap.size hlt (fun hm => by
    unfold LMine at hm
    rw [hl] at hm
    have := (h.rows.lt hm).2
    omega)]
  exact hq
theorem tok_cells {w : World} {n : Nat} {k : Dsr.Tok} (h : w.heap[n]? = some (tokO k)) : w.cell? ⟨n, 0, none⟩ = some (strV k.text) ∧ w.cell? ⟨n, 1, none⟩ = some (.int .i64 k.at_) ∧ w.cell? ⟨n, 2, none⟩ = some (.bool (isW k)) ∧ w.cell? ⟨n, 3, none⟩ = some (.int .i64 (sgn k)) := by
  refine ⟨?_, ?_, ?_, ?_⟩ <;> simp [World.cell?, h, tokO]
theorem roleRows_at' {l : LK} {s : LS} {m : Nat} {x : Dsr.Ev} {v : Value} (hx : l.events[m]? = some x) (hv : s.rv[m]? = some v) : (lkRows l s)[m + 3]? = some ⟨v, 9, 1, x.roles.length, x.roles.map strV⟩ := roleRows_at _ _ _ _ _ hx hv
theorem one_rev (u : Dsr.Ev) : ∀ x ∈ evC u (.slice none 0 0), x.oneCell' = true := by intro x hx; simp [evC] at hx; rcases hx with rfl | rfl | rfl | rfl | rfl <;> rfl
theorem after_rev {B b : Nat} {wc w1 : World} {l : LK} {s : LS} {u : Dsr.Ev} {o : Obj} {g cap : Nat} (hu : u.roles = []) (HR : LkAt B b wc l s)
    (hown : w1.ownsRow B 226 5 (.slice (some ⟨g, 0, none⟩) (l.events.length + 1) cap) (l.events.length + 1) (evCells l.events s.rv ++ evC u (.slice none 0 0))) (hgrow : (wc.alloc o).grownBy w1 s.ve.ownBlock) (hat : s.ve.ownBlock = some g ∨ g = (wc.alloc o).heap.size) :
    Hid (LNext B b wc l s (w1.setCell ⟨b, 4, none⟩ (.slice (some ⟨g, 0, none⟩) (l.events.length + 1) cap)) { l with events := l.events ++ [u] } { s with ve := .slice (some ⟨g, 0, none⟩) (l.events.length + 1) cap, rv := s.rv ++ [.slice none 0 0] }) ∧ w1.cell? ⟨b, 4, none⟩ = some s.ve ∧ w1.frozen? ⟨b, 4, none⟩ = false := by
  have HA := (LNext.refl HR).aside (below_alloc1 o)
  have hc := HA.lk.cells
  have hne : some b ≠ s.ve.ownBlock := fun e => (HA.lk.rowMine (r := ⟨s.ve, 226, 5, l.events.length, evCells l.events s.rv⟩) (by simp [lkRows]) b e.symm).2 rfl
  refine ⟨HA.trans (HA.lk.eventAdd u hu hown hgrow hat), ?_, ?_⟩
  · rw [hgrow.cell_far ⟨b, 4, none⟩ HA.lk.lt hne]; exact hc.2.2.2.2.1
  · rw [hgrow.frozen_far ⟨b, 4, none⟩ HA.lk.lt hne]; exact hc.2.2.2.2.2.2.2.2.2 4
theorem after_role {B b : Nat} {wc w1 : World} {l : LK} {s : LS} {o : Obj} {ge ce m g cap : Nat} {x : Dsr.Ev} {v : Value} {t : List UInt8} (HR : LkAt B b wc l s) (hv : s.ve = .slice (some ⟨ge, 0, none⟩) (m + 1) ce) (hl : l.events.length = m + 1) (hx : l.events[m]? = some x) (hvx : s.rv[m]? = some v)
    (hown : w1.ownsRow B 9 1 (.slice (some ⟨g, 0, none⟩) (x.roles.length + 1) cap) (x.roles.length + 1) (x.roles.map strV ++ [strV t])) (hgrow : (wc.alloc o).grownBy w1 v.ownBlock) (hat : v.ownBlock = some g ∨ g = (wc.alloc o).heap.size) :
    Hid (LNext B b wc l s (w1.setCell ⟨ge, m * 5 + 1, none⟩ (.slice (some ⟨g, 0, none⟩) (x.roles.length + 1) cap)) { l with events := modLast (fun x => { x with roles := x.roles ++ [t] }) l.events } { s with rv := s.rv.set m (.slice (some ⟨g, 0, none⟩) (x.roles.length + 1) cap) }) ∧ w1.cell? ⟨ge, m * 5 + 1, none⟩ = some v ∧ w1.frozen? ⟨ge, m * 5 + 1, none⟩ = false := by
  have HA := (LNext.refl HR).aside (below_alloc1 o)
  obtain ⟨g', c', m', x', v', hv', hm', hx', hvx', hgb, e0, e1, e2, e3, e4, ez, hmc, hc⟩ := HA.lk.lastEv (by omega)
  rw [hv] at hv'
  injection hv' with hv1 hv2 hv3
  injection hv1 with hv1
  injection hv1 with hv1
  have hmm : m = m' := by omega
  subst hv1 hmm
  have : v = v' := by rw [hvx] at hvx'; exact Option.some.inj hvx'
  subst this
  have hne : some ge ≠ v.ownBlock := fun e => HA.lk.rows.differ (i := 0) (j := m + 3) (r := ⟨s.ve, 226, 5, l.events.length, evCells l.events s.rv⟩) rfl (roleRows_at' hx hvx) (by omega) (k := ge) (by show s.ve.ownBlock = _; rw [hv]; rfl) e.symm
  have hgl : ge < (wc.alloc o).heap.size := World.block_lt_of_cell? _ _ e0
  refine ⟨HA.trans (HA.lk.roleAdd hv hl hx hvx t hown hgrow hat), ?_, ?_⟩
  · rw [hgrow.cell_far ⟨ge, m * 5 + 1, none⟩ hgl hne]; exact e1
  · rw [hgrow.frozen_far ⟨ge, m * 5 + 1, none⟩ hgl hne]; exact ez _
set_option maxRecDepth 100000 in
set_option maxHeartbeats 3200000 in
theorem rnext_9 {B b : Nat} {w : World} {l : LK} {s : LS} (k : Dsr.Tok) (h : LkAt B b w l s) (hw : l.want = 9) (hu : l.uses.length ≤ 1000) (hk : k.text.length ≤ 1000) (hn : 0 < l.rules.length) (hr : l.rules.length ≤ 1000) :
    Calls Tryz.prog 113 #[ptrL b, tkV k] w fun e w' => e = .returned (.tuple #[]) ∧ ∃ s', LNext B b w l s w' (nextP l k) s' := by
  obtain ⟨wt, ln, rl, er, es, rs, us, ev, rq⟩ := l
  have hw : wt = 9 := hw
  subst hw
  have A0 := (LNext.refl h).aside (below_alloc1 (tokO k))
  have HA : Hid (LNext B b w ⟨9, ln, rl, er, es, rs, us, ev, rq⟩ s (w.alloc (tokO k)) ⟨9, ln, rl, er, es, rs, us, ev, rq⟩ s) := A0
  obtain ⟨c0, c1, c2, c3, c4, c5, c6, c7, c8, fz⟩ := h.cells
  have hlt := h.lt
  have H : Hid (LkAt B b w ⟨9, ln, rl, er, es, rs, us, ev, rq⟩ s) := h
  clear A0
  have HP : Hid (nextP ⟨9, ln, rl, er, es, rs, us, ev, rq⟩ k = { namedP ⟨9, ln, rl, er, es, rs, us, ev, rq⟩ k true 3 7 with rules := modLast (fun x => { x with right := k.text }) rs }) := rfl
  rw [HP.out]
  have hn : 0 < rs.length := hn
  have hr : rs.length ≤ 1000 := hr
  clear HP h
  have HB := fun (w1 : World) (h1 : LkAt B b w1 ⟨9, ln, rl, er, es, rs, us, ev, rq⟩ s) => rnamed_any k true 3 7 h1 hu hk
  have HB2 : Hid (∀ (w1 : World), LkAt B b w1 ⟨9, ln, rl, er, es, rs, us, ev, rq⟩ s → _) := HB
  clear HB
  go_enter Tryz.func113, Tryz.ntmps113
  go_wp2_with fail
  refine (HB2.out _ HA.out.lk).mono ?_
  rintro e w1 ⟨rfl, s1, N1, q1, q2, q3⟩
  obtain ⟨tk0, -, -, -⟩ := tok_cells (far2 H.out rfl N1.kp (heap_alloc_new w (tokO k)))
  have er' : (namedP ⟨9, ln, rl, er, es, rs, us, ev, rq⟩ k true 3 7).rules = rs := by unfold namedP; split <;> (try split) <;> rfl
  obtain ⟨l2, hl2⟩ : ∃ l2, namedP ⟨9, ln, rl, er, es, rs, us, ev, rq⟩ k true 3 7 = l2 := ⟨_, rfl⟩
  have N2 := HA.out.trans N1
  rw [hl2] at N2 er'
  have HL : Hid (namedP ⟨9, ln, rl, er, es, rs, us, ev, rq⟩ k true 3 7 = l2) := hl2
  have HN : Hid (LNext B b w ⟨9, ln, rl, er, es, rs, us, ev, rq⟩ s w1 l2 s1) := N2
  clear HB2 N1 HA hl2 c0 c1 c2 c3 c4 c5 c6 c7 c8 fz
  obtain ⟨g, c, m, x, hv, hm, hx, hgb, e0, e1, e2, ez, hmc, hc⟩ := N2.lk.lastRu (by rw [er']; exact hn)
  obtain ⟨c0, c1, c2, c3, c4, c5, c6, c7, c8, fz⟩ := N2.lk.cells
  rw [hv] at c5
  have hglt : g < w1.heap.size := World.block_lt_of_cell? _ _ e0
  have hlt1 := N2.lk.lt
  have hw1 : w.heap.size < w1.heap.size := World.block_lt_of_cell? _ _ tk0
  have HM : Hid (s1.vr = .slice (some ⟨g, 0, none⟩) (m + 1) c ∧ l2.rules.length = m + 1) := ⟨hv, hm⟩
  have hmI : (m : Int) ≤ 1000 := by rw [er'] at hm; omega
  have hind : ((m : Int) < (m : Int) + 1) := by omega
  have HER : Hid (l2.rules = rs) := er'
  clear N2 hv hm hx er' hn hr c0 c1 c2 c3 c4 c6 c7 c8 q1 q2 q3
  go_wp2_with fail
  go_region
  go_wp2_with fail
  go_end0
  refine ⟨rfl, s1, ?_⟩
  have e : ({ l2 with rules := modLast (fun x => { x with right := k.text }) rs } : LK) = { l2 with rules := modLast (fun x => { x with right := k.text }) l2.rules } := by rw [HER.out]
  rw [HL.out, e]
  exact (HN.out.trans (HN.out.lk.ruleMod HM.out.1 HM.out.2 (fun x => { x with right := k.text }) 2 (strV k.text) (by decide) (fun _ => rfl))).aside ((Below.refl _ _).drew)
set_option maxRecDepth 100000 in
set_option maxHeartbeats 3200000 in
theorem rnext_1 {B b : Nat} {w : World} {l : LK} {s : LS} (k : Dsr.Tok) (h : LkAt B b w l s) (hw : l.want = 1) (hu : l.uses.length ≤ 1000) (hk : k.text.length ≤ 1000) (he : l.events.length ≤ 1000) :
    Calls Tryz.prog 113 #[ptrL b, tkV k] w fun e w' => e = .returned (.tuple #[]) ∧ ∃ s', LNext B b w l s w' (nextP l k) s' := by
  obtain ⟨wt, ln, rl, er, es, rs, us, ev, rq⟩ := l
  have hw : wt = 1 := hw
  subst hw
  have A0 := (LNext.refl h).aside (below_alloc1 (tokO k))
  have HA : Hid (LNext B b w ⟨1, ln, rl, er, es, rs, us, ev, rq⟩ s (w.alloc (tokO k)) ⟨1, ln, rl, er, es, rs, us, ev, rq⟩ s) := A0
  obtain ⟨c0, c1, c2, c3, c4, c5, c6, c7, c8, fz⟩ := h.cells
  have hlt := h.lt
  have H : Hid (LkAt B b w ⟨1, ln, rl, er, es, rs, us, ev, rq⟩ s) := h
  clear A0
  have HP : Hid (nextP ⟨1, ln, rl, er, es, rs, us, ev, rq⟩ k = { namedP ⟨1, ln, rl, er, es, rs, us, ev, rq⟩ k true 1 2 with events := es ++ [⟨k.text, [], false, true, false⟩] }) := rfl
  rw [HP.out]
  have he : es.length ≤ 1000 := he
  clear HP h
  have HB := fun (w1 : World) (h1 : LkAt B b w1 ⟨1, ln, rl, er, es, rs, us, ev, rq⟩ s) => rnamed_any k true 1 2 h1 hu hk
  have HB2 : Hid (∀ (w1 : World), LkAt B b w1 ⟨1, ln, rl, er, es, rs, us, ev, rq⟩ s → _) := HB
  clear HB
  obtain ⟨i0, hi, hz0, hz1, hz2⟩ := info_parts Tryz.infoREv
  go_enter Tryz.func113, Tryz.ntmps113
  go_wp2_with fail
  refine (HB2.out _ HA.out.lk).mono ?_
  rintro e w1 ⟨rfl, s1, N1, q1, q2, q3⟩
  obtain ⟨tk0, -, -, -⟩ := tok_cells (far2 H.out rfl N1.kp (heap_alloc_new w (tokO k)))
  have er' : (namedP ⟨1, ln, rl, er, es, rs, us, ev, rq⟩ k true 1 2).events = es := by unfold namedP; split <;> (try split) <;> rfl
  obtain ⟨l2, hl2⟩ : ∃ l2, namedP ⟨1, ln, rl, er, es, rs, us, ev, rq⟩ k true 1 2 = l2 := ⟨_, rfl⟩
  have N2 := HA.out.trans N1
  rw [hl2] at N2 er'
  have HL : Hid (namedP ⟨1, ln, rl, er, es, rs, us, ev, rq⟩ k true 1 2 = l2) := hl2
  have HN : Hid (LNext B b w ⟨1, ln, rl, er, es, rs, us, ev, rq⟩ s w1 l2 s1) := N2
  clear HB2 N1 HA hl2 c0 c1 c2 c3 c4 c5 c6 c7 c8 fz
  obtain ⟨c0, c1, c2, c3, c4, c5, c6, c7, c8, fz⟩ := N2.lk.cells
  have hbw2 := N2.lk.lt
  have hB3 : B ≤ w1.heap.size := by have := N2.lk.low; omega
  have hw1 : w.heap.size < w1.heap.size := World.block_lt_of_cell? _ _ tk0
  have HU : Hid (w1.ownsRow B 226 5 s1.ve l2.events.length (evCells l2.events s1.rv)) := N2.lk.own0
  have HER : Hid (l2.events = es) := er'
  have he2 : l2.events.length ≤ 1000 := by rw [er']; exact he
  clear N2 er' c0 c1 c2 c3 c5 c6 c7 c8 q1 q2 q3 he
  go_wp2_with fail
  go_region_law (refine step_append_lies _ rfl (.tmp 27) (.tmp 32) 215 rfl B 226 i0 _ 5 48 Tryz.underlying215 hi hz0 hz1 hz2 rfl (by decide) s1.ve l2.events.length _ (by simp [Act.eval, Act.put]) (by first | exact HU.out.alloc _ | exact (HU.out.alloc _).drew) ⟨w1.heap.size, 0, none⟩ 1 1 (evC ⟨k.text, [], false, true, false⟩ (.slice none 0 0)) (by simp [Act.eval, Act.put]) rfl (by exact news_l rfl) (one_rev _) (by decide) (by unfold maxLen; omega) (by omega) (by simp; omega) _ rfl ?_; intro g cap w2 hown hgrow hat hlt1; obtain ⟨HM, e7, f7⟩ := after_rev rfl HN.out.lk hown (grownD hgrow) hat)
  all_goals
    go_wp2_with fail
    go_end0
    refine ⟨rfl, { s1 with ve := .slice (some ⟨g, 0, none⟩) (l2.events.length + 1) cap, rv := s1.rv ++ [.slice none 0 0] }, ?_⟩
    have e : ({ l2 with events := es ++ [⟨k.text, [], false, true, false⟩] } : LK) = { l2 with events := l2.events ++ [⟨k.text, [], false, true, false⟩] } := by rw [HER.out]
    rw [HL.out, e]
    exact HN.out.trans HM.out
set_option maxRecDepth 100000 in
set_option maxHeartbeats 3200000 in
theorem rnext_3 {B b : Nat} {w : World} {l : LK} {s : LS} (k : Dsr.Tok) (h : LkAt B b w l s) (hw : l.want = 3) (hu : l.uses.length ≤ 1000) (hk : k.text.length ≤ 1000) (hn : 0 < l.events.length) (he : l.events.length ≤ 1000) (hrl : l.roles ≤ 1000) (hrr : ∀ x ∈ l.events, x.roles.length ≤ 1000) :
    Calls Tryz.prog 113 #[ptrL b, tkV k] w fun e w' => e = .returned (.tuple #[]) ∧ ∃ s', LNext B b w l s w' (nextP l k) s' := by
  obtain ⟨wt, ln, rl, er, es, rs, us, ev, rq⟩ := l
  have hw : wt = 3 := hw
  subst hw
  have A0 := (LNext.refl h).aside (below_alloc1 (tokO k))
  have HA : Hid (LNext B b w ⟨3, ln, rl, er, es, rs, us, ev, rq⟩ s (w.alloc (tokO k)) ⟨3, ln, rl, er, es, rs, us, ev, rq⟩ s) := A0
  obtain ⟨c0, c1, c2, c3, c4, c5, c6, c7, c8, fz⟩ := h.cells
  have hlt := h.lt
  have H : Hid (LkAt B b w ⟨3, ln, rl, er, es, rs, us, ev, rq⟩ s) := h
  clear A0
  have HP : Hid (nextP ⟨3, ln, rl, er, es, rs, us, ev, rq⟩ k = { namedP { (⟨3, ln, rl, er, es, rs, us, ev, rq⟩ : LK) with roles := rl + 1 } k (decide (rl + 1 ≤ 4)) 2 4 with events := modLast (fun x => { x with roles := x.roles ++ [k.text] }) es }) := rfl
  rw [HP.out]
  have he : es.length ≤ 1000 := he
  have hn : 0 < es.length := hn
  have HRR : Hid (∀ x ∈ es, x.roles.length ≤ 1000) := hrr
  clear hrr
  have hrl : (rl : Int) ≤ 1000 := by have : rl ≤ 1000 := hrl; omega
  clear HP h
  have HB := fun (w1 : World) (h1 : LkAt B b w1 { (⟨3, ln, rl, er, es, rs, us, ev, rq⟩ : LK) with roles := rl + 1 } s) => rnamed_any k (decide ((rl : Int) + 1 ≤ 4)) 2 4 h1 hu hk
  have HB2 : Hid (∀ (w1 : World), LkAt B b w1 { (⟨3, ln, rl, er, es, rs, us, ev, rq⟩ : LK) with roles := rl + 1 } s → _) := HB
  clear HB
  obtain ⟨i0, hi, hz0, hz1, hz2⟩ := info_parts Tryz.infoStr
  have N2 : LNext B b w ⟨3, ln, rl, er, es, rs, us, ev, rq⟩ s ((w.setCell ⟨b, 2, none⟩ (.int .i64 (rl + 1))).alloc (tokO k)).drew { (⟨3, ln, rl, er, es, rs, us, ev, rq⟩ : LK) with roles := rl + 1 } s :=
    ((LNext.refl H.out).put (l2 := { (⟨3, ln, rl, er, es, rs, us, ev, rq⟩ : LK) with roles := rl + 1 }) 2 _ rfl rfl rfl rfl).aside (((Below.refl _ _).alloc (Nat.le_refl _) _).drew)
  have HN2 : Hid (LNext B b w ⟨3, ln, rl, er, es, rs, us, ev, rq⟩ s ((w.setCell ⟨b, 2, none⟩ (.int .i64 (rl + 1))).alloc (tokO k)).drew { (⟨3, ln, rl, er, es, rs, us, ev, rq⟩ : LK) with roles := rl + 1 } s) := N2
  have hrd : decide ((rl : Int) + 1 ≤ 4) = decide (rl + 1 ≤ 4) := by rw [Bool.eq_iff_iff]; simp; omega
  have HRD : Hid (decide ((rl : Int) + 1 ≤ 4) = decide (rl + 1 ≤ 4)) := hrd
  clear N2 hrd HA
  go_enter Tryz.func113, Tryz.ntmps113
  go_wp2_with fail
  go_cut [] from 9 (fun wd => ∃ s3, LNext B b w ⟨3, ln, rl, er, es, rs, us, ev, rq⟩ s wd (namedP { (⟨3, ln, rl, er, es, rs, us, ev, rq⟩ : LK) with roles := rl + 1 } k (decide ((rl : Int) + 1 ≤ 4)) 2 4) s3 ∧ wd.heap[w.heap.size]? = some (tokO k))
  case first =>
    go_region_with (go_at_call 163; refine (HB2.out _ HN2.out.lk).mono ?_; rintro e w3 ⟨rfl, s3, N3, q1, q2, q3⟩)
    all_goals
      go_wp2_with fail
      go_meet
      case rel => exact ⟨_, HN2.out.trans N3, far2 H.out rfl N3.kp (by have h := heap_alloc_new (w.setCell ⟨b, 2, none⟩ (.int .i64 (rl + 1))) (tokO k); rw [World.size_setCell] at h; exact h)⟩
  case rest =>
    obtain ⟨s1, N2, tq⟩ := hcut
    obtain ⟨tk0, -, -, -⟩ := tok_cells tq
    rw [HRD.out] at N2
    have er' : (namedP { (⟨3, ln, rl, er, es, rs, us, ev, rq⟩ : LK) with roles := rl + 1 } k (decide (rl + 1 ≤ 4)) 2 4).events = es := by unfold namedP; split <;> (try split) <;> rfl
    obtain ⟨l2, hl2⟩ : ∃ l2, namedP { (⟨3, ln, rl, er, es, rs, us, ev, rq⟩ : LK) with roles := rl + 1 } k (decide (rl + 1 ≤ 4)) 2 4 = l2 := ⟨_, rfl⟩
    rw [hl2] at N2 er'
    have HL : Hid (namedP { (⟨3, ln, rl, er, es, rs, us, ev, rq⟩ : LK) with roles := rl + 1 } k (decide (rl + 1 ≤ 4)) 2 4 = l2) := hl2
    have HN : Hid (LNext B b w ⟨3, ln, rl, er, es, rs, us, ev, rq⟩ s wc l2 s1) := N2
    clear HB2 hl2 c0 c1 c2 c3 c4 c5 c6 c7 c8 fz HN2 HRD tq
    obtain ⟨g, c, m, x, v, hv, hm, hx, hvx, hgb, e0, e1, e2, e3, e4, ez, hmc, hc⟩ := N2.lk.lastEv (by rw [er']; exact hn)
    obtain ⟨c0, c1, c2, c3, c4, c5, c6, c7, c8, fz⟩ := N2.lk.cells
    rw [hv] at c4
    have hglt : g < wc.heap.size := World.block_lt_of_cell? _ _ e0
    have hbw2 := N2.lk.lt
    have hB3 : B ≤ wc.heap.size := by have := N2.lk.low; omega
    have hw1 : w.heap.size < wc.heap.size := World.block_lt_of_cell? _ _ tk0
    have HU : Hid (wc.ownsRow B 9 1 v x.roles.length (x.roles.map strV)) := N2.lk.rows.own ⟨v, 9, 1, x.roles.length, x.roles.map strV⟩ (List.mem_of_getElem? (roleRows_at' hx hvx))
    have HM : Hid (s1.ve = .slice (some ⟨g, 0, none⟩) (m + 1) c ∧ l2.events.length = m + 1 ∧ l2.events[m]? = some x ∧ s1.rv[m]? = some v) := ⟨hv, hm, hx, hvx⟩
    have hmI : (m : Int) ≤ 1000 := by rw [er'] at hm; omega
    have hind : ((m : Int) < (m : Int) + 1) := by omega
    have HER : Hid (l2.events = es) := er'
    clear N2 er' c0 c1 c2 c3 c5 c6 c7 c8 he hn hv hm hx hvx
    go_wp2_with fail
    go_quiet (fail)
    go_wp2_with fail
    have N3 : LNext B b w ⟨3, ln, rl, er, es, rs, us, ev, rq⟩ s (wc.drewN nq) l2 s1 := HN.out.aside ⟨rfl, rfl, rfl, Nat.le_refl _, fun _ _ => rfl⟩
    have HN3 : Hid (LNext B b w ⟨3, ln, rl, er, es, rs, us, ev, rq⟩ s (wc.drewN nq) l2 s1) := N3
    have HUq : Hid ((wc.drewN nq).ownsRow B 9 1 v x.roles.length (x.roles.map strV)) := HU.out
    have hxr : x.roles.length ≤ 1000 := HRR.out x (by rw [← HER.out]; exact List.mem_of_getElem? HM.out.2.2.1)
    have e1' : (wc.drewN nq).cell? ⟨g, m * 5 + 1, none⟩ = some v := e1
    have ez' : ∀ o, (wc.drewN nq).frozen? ⟨g, o, none⟩ = false := ez
    have tk0' : (wc.drewN nq).cell? ⟨w.heap.size, 0, none⟩ = some (strV k.text) := tk0
    have hglt' : g < (wc.drewN nq).heap.size := hglt
    have hbw2' : b < (wc.drewN nq).heap.size := hbw2
    have hB3' : B ≤ (wc.drewN nq).heap.size := hB3
    have hw1' : w.heap.size < (wc.drewN nq).heap.size := hw1
    clear N3 e0 e1 e2 e3 e4 ez tk0 hglt hbw2 hB3 hw1 HU HN c4 fz
    generalize wc.drewN nq = wd at *
    have hxI : (x.roles.length : Int) ≤ 1000 := by omega
    go_region_law (refine step_append_lies _ rfl (.tmp 90) (.tmp 93) 22 rfl B 9 i0 _ 1 16 Tryz.underlying22 hi hz0 hz1 hz2 rfl (by decide) v x.roles.length _ (by simp [Act.eval, Act.put]) (by first | exact HUq.out.alloc _ | exact (HUq.out.alloc _).drew) ⟨wd.heap.size, 0, none⟩ 1 1 [strV k.text] (by simp [Act.eval, Act.put]) rfl (by exact news_l rfl) (by intro x hx; simp at hx; subst hx; rfl) (by decide) (by unfold maxLen; omega) (by first | omega | (simp; omega)) (by first | omega | (simp; omega)) _ rfl ?_; intro g2 cap w2 hown hgrow hat hlt1; obtain ⟨HK, e7, f7⟩ := after_role HN3.out.lk HM.out.1 HM.out.2.1 HM.out.2.2.1 HM.out.2.2.2 hown (grownD hgrow) hat)
    all_goals
      go_wp2_with fail
      go_end0
      refine ⟨rfl, { s1 with rv := s1.rv.set m (.slice (some ⟨g2, 0, none⟩) (x.roles.length + 1) cap) }, ?_⟩
      have e : ({ l2 with events := modLast (fun x => { x with roles := x.roles ++ [k.text] }) es } : LK) = { l2 with events := modLast (fun x => { x with roles := x.roles ++ [k.text] }) l2.events } := by rw [HER.out]
      rw [HL.out, e]
      exact HN3.out.trans HK.out
end Go.Proofs.YtjmcokcdaddpcaaGreatDoor
