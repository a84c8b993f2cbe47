import Derived.Test.YtjmcokcdaddpcaaGreatDoorGrI
set_option linter.unusedVariables false
set_option linter.unusedSimpArgs false
namespace Go.Proofs.YtjmcokcdaddpcaaGreatDoor
open Go.RowKit
abbrev tokO (k : Dsr.Tok) : Obj := .cells #[strV k.text, .int .i64 k.at_, .bool (isW k), .int .i64 (sgn k)] 223
set_option maxRecDepth 100000 in
set_option maxHeartbeats 3200000 in
theorem rnext_0 {B b : Nat} {w : World} {l : LK} {s : LS} (k : Dsr.Tok) (h : LkAt B b w l s) (hw : l.want = 0) (hu : l.uses.length ≤ 1000) (hk : k.text.length ≤ 1000) (hr : l.rules.length ≤ 1000) (hln : l.lines ≤ 1000) (hev : l.event ≤ 1000) (hru : l.rule ≤ 1000) :
    Calls Tryz.prog 113 #[ptrL b, tkV k] w fun e w' => e = .returned (.tuple #[]) ∧ ∃ s', LNext B b w l s w' (nextP l k) s' := by
  obtain ⟨wt, ln, rl, er, es, rs, us, ev, rq⟩ := l
  have hw : wt = 0 := hw
  subst hw
  have A0 := (LNext.refl h).aside (below_alloc1 (tokO k))
  have HA : Hid (LNext B b w ⟨0, ln, rl, er, es, rs, us, ev, rq⟩ s (w.alloc (tokO k)) ⟨0, ln, rl, er, es, rs, us, ev, rq⟩ s) := A0
  obtain ⟨c0, c1, c2, c3, c4, c5, c6, c7, c8, fz⟩ := h.cells
  have hlt := h.lt
  clear A0
  have HP : Hid (nextP ⟨0, ln, rl, er, es, rs, us, ev, rq⟩ k = beginP ⟨0, ln, rl, er, es, rs, us, ev, rq⟩ k) := rfl
  rw [HP.out]
  clear h
  have HB := fun (w1 : World) (h1 : LkAt B b w1 ⟨0, ln, rl, er, es, rs, us, ev, rq⟩ s) => rbegin_any k h1 hu hk hr hln hev hru
  have HB2 : Hid (∀ (w1 : World), LkAt B b w1 ⟨0, ln, rl, er, es, rs, us, ev, rq⟩ s → _) := HB
  clear HB HP
  go_enter Tryz.func113, Tryz.ntmps113
  go_wp2_with fail
  refine (HB2.out _ HA.out.lk).mono ?_
  rintro e w1 ⟨rfl, s1, N1⟩
  have HN := HA.out.trans N1
  have HN1 : Hid (LNext B b w ⟨0, ln, rl, er, es, rs, us, ev, rq⟩ s w1 (beginP ⟨0, ln, rl, er, es, rs, us, ev, rq⟩ k) s1) := HN
  clear HN N1
  go_wp2_with fail
  go_end0
  exact ⟨rfl, s1, HN1.out⟩
set_option maxRecDepth 100000 in
set_option maxHeartbeats 3200000 in
theorem rnext_2 {B b : Nat} {w : World} {l : LK} {s : LS} (k : Dsr.Tok) (h : LkAt B b w l s) (hw : l.want = 2) :
    Calls Tryz.prog 113 #[ptrL b, tkV k] w fun e w' => e = .returned (.tuple #[]) ∧ ∃ s', LNext B b w l s w' (nextP l k) s' := by
  obtain ⟨wt, ln, rl, er, es, rs, us, ev, rq⟩ := l
  have hw : wt = 2 := hw
  subst hw
  have A0 := (LNext.refl h).aside (below_alloc1 (tokO k))
  have HA : Hid (LNext B b w ⟨2, ln, rl, er, es, rs, us, ev, rq⟩ s (w.alloc (tokO k)) ⟨2, ln, rl, er, es, rs, us, ev, rq⟩ s) := A0
  obtain ⟨c0, c1, c2, c3, c4, c5, c6, c7, c8, fz⟩ := h.cells
  have hlt := h.lt
  clear A0
  have HP : Hid (nextP ⟨2, ln, rl, er, es, rs, us, ev, rq⟩ k = { (⟨2, ln, rl, er, es, rs, us, ev, rq⟩ : LK) with want := 3, roles := 0, e := if isW k = true ∧ k.text = [98, 121] then er else 2 }) := rfl
  rw [HP.out]
  have H : Hid (LkAt B b w ⟨2, ln, rl, er, es, rs, us, ev, rq⟩ s) := h
  clear h HP HA
  obtain ⟨kd, ru, at_, tx⟩ := k
  rcases hW : isW ⟨kd, ru, at_, tx⟩ with _ | _
  · rw [if_neg (by simp)]
    go_enter Tryz.func113, Tryz.ntmps113
    go_wp2_with fail
    go_end0
    refine ⟨rfl, s, ?_⟩
    exact ((((LNext.refl H.out).put (l2 := { (⟨2, ln, rl, er, es, rs, us, ev, rq⟩ : LK) with want := 3 }) 0 _ rfl rfl rfl rfl).put (l2 := { (⟨2, ln, rl, er, es, rs, us, ev, rq⟩ : LK) with want := 3, roles := 0 }) 2 _ rfl rfl rfl rfl).put (l2 := { (⟨2, ln, rl, er, es, rs, us, ev, rq⟩ : LK) with want := 3, roles := 0, e := 2 }) 3 _ rfl rfl rfl rfl).aside (below_alloc1 _)
  · by_cases hT : tx = [98, 121]
    · subst hT
      rw [if_pos ⟨rfl, rfl⟩]
      go_enter Tryz.func113, Tryz.ntmps113
      go_wp2_with fail
      go_end0
      refine ⟨rfl, s, ?_⟩
      exact (((LNext.refl H.out).put (l2 := { (⟨2, ln, rl, er, es, rs, us, ev, rq⟩ : LK) with want := 3 }) 0 _ rfl rfl rfl rfl).put (l2 := { (⟨2, ln, rl, er, es, rs, us, ev, rq⟩ : LK) with want := 3, roles := 0 }) 2 _ rfl rfl rfl rfl).aside (below_alloc1 _)
    · rw [if_neg (fun h => hT h.2)]
      have hT' : (tx == [98, 121]) = false := beq_eq_false_iff_ne.2 hT
      clear hT
      go_enter Tryz.func113, Tryz.ntmps113
      go_wp2_with fail
      go_end0
      refine ⟨rfl, s, ?_⟩
      exact ((((LNext.refl H.out).put (l2 := { (⟨2, ln, rl, er, es, rs, us, ev, rq⟩ : LK) with want := 3 }) 0 _ rfl rfl rfl rfl).put (l2 := { (⟨2, ln, rl, er, es, rs, us, ev, rq⟩ : LK) with want := 3, roles := 0 }) 2 _ rfl rfl rfl rfl).put (l2 := { (⟨2, ln, rl, er, es, rs, us, ev, rq⟩ : LK) with want := 3, roles := 0, e := 2 }) 3 _ rfl rfl rfl rfl).aside (below_alloc1 _)
set_option maxRecDepth 100000 in
set_option maxHeartbeats 3200000 in
theorem rnext_7 {B b : Nat} {w : World} {l : LK} {s : LS} (k : Dsr.Tok) (h : LkAt B b w l s) (hw : l.want = 7) :
    Calls Tryz.prog 113 #[ptrL b, tkV k] w fun e w' => e = .returned (.tuple #[]) ∧ ∃ s', LNext B b w l s w' (nextP l k) s' := by
  obtain ⟨wt, ln, rl, er, es, rs, us, ev, rq⟩ := l
  have hw : wt = 7 := hw
  subst hw
  have A0 := (LNext.refl h).aside (below_alloc1 (tokO k))
  have HA : Hid (LNext B b w ⟨7, ln, rl, er, es, rs, us, ev, rq⟩ s (w.alloc (tokO k)) ⟨7, ln, rl, er, es, rs, us, ev, rq⟩ s) := A0
  obtain ⟨c0, c1, c2, c3, c4, c5, c6, c7, c8, fz⟩ := h.cells
  have hlt := h.lt
  clear A0
  have HP : Hid (nextP ⟨7, ln, rl, er, es, rs, us, ev, rq⟩ k = { (⟨7, ln, rl, er, es, rs, us, ev, rq⟩ : LK) with want := 0, e := if k.text = [59] then er else 2 }) := rfl
  rw [HP.out]
  have H : Hid (LkAt B b w ⟨7, ln, rl, er, es, rs, us, ev, rq⟩ s) := h
  clear h HP HA
  obtain ⟨kd, ru, at_, tx⟩ := k
  by_cases hT : tx = [59]
  · subst hT
    rw [if_pos rfl]
    go_enter Tryz.func113, Tryz.ntmps113
    go_wp2_with fail
    go_end0
    refine ⟨rfl, s, ?_⟩
    exact ((LNext.refl H.out).put (l2 := { (⟨7, ln, rl, er, es, rs, us, ev, rq⟩ : LK) with want := 0 }) 0 _ rfl rfl rfl rfl).aside (below_alloc1 _)
  · rw [if_neg hT]
    have hT' : (tx == [59]) = false := beq_eq_false_iff_ne.2 hT
    clear hT
    go_enter Tryz.func113, Tryz.ntmps113
    go_wp2_with fail
    go_end0
    refine ⟨rfl, s, ?_⟩
    exact (((LNext.refl H.out).put (l2 := { (⟨7, ln, rl, er, es, rs, us, ev, rq⟩ : LK) with want := 0 }) 0 _ rfl rfl rfl rfl).put (l2 := { (⟨7, ln, rl, er, es, rs, us, ev, rq⟩ : LK) with want := 0, e := 2 }) 3 _ rfl rfl rfl rfl).aside (below_alloc1 _)
set_option maxRecDepth 100000 in
set_option maxHeartbeats 3200000 in
theorem rnext_8 {B b : Nat} {w : World} {l : LK} {s : LS} (k : Dsr.Tok) (h : LkAt B b w l s) (hw : l.want = 8) (hn : 0 < l.rules.length) (hr : l.rules.length ≤ 1000) :
    Calls Tryz.prog 113 #[ptrL b, tkV k] w fun e w' => e = .returned (.tuple #[]) ∧ ∃ s', LNext B b w l s w' (nextP l k) s' := by
  obtain ⟨wt, ln, rl, er, es, rs, us, ev, rq⟩ := l
  have hw : wt = 8 := hw
  subst hw
  have A0 := (LNext.refl h).aside (below_alloc1 (tokO k))
  have HA : Hid (LNext B b w ⟨8, ln, rl, er, es, rs, us, ev, rq⟩ s (w.alloc (tokO k)) ⟨8, ln, rl, er, es, rs, us, ev, rq⟩ s) := A0
  obtain ⟨c0, c1, c2, c3, c4, c5, c6, c7, c8, fz⟩ := h.cells
  have hlt := h.lt
  clear A0
  have HP : Hid (nextP ⟨8, ln, rl, er, es, rs, us, ev, rq⟩ k = { (⟨8, ln, rl, er, es, rs, us, ev, rq⟩ : LK) with want := 9, rules := modLast (fun x => { x with sign := sgn k }) rs, e := if sgn k = 0 then 2 else er }) := rfl
  rw [HP.out]
  obtain ⟨g, c, m, x, hv, hm, hx, hgb, e0, e1, e2, ez, hmc, hc⟩ := h.lastRu hn
  rw [hv] at c5
  have hglt : g < w.heap.size := World.block_lt_of_cell? _ _ e0
  have hm : rs.length = m + 1 := hm
  have hr : rs.length ≤ 1000 := hr
  have HM : Hid (s.vr = .slice (some ⟨g, 0, none⟩) (m + 1) c ∧ rs.length = m + 1) := ⟨hv, hm⟩
  have hmI : (m : Int) ≤ 1000 := by omega
  have hind : ((m : Int) < (m : Int) + 1) := by omega
  have H : Hid (LkAt B b w ⟨8, ln, rl, er, es, rs, us, ev, rq⟩ s) := h
  clear h HP HA hv hm hx hn hr
  have hN : LNext B b w ⟨8, ln, rl, er, es, rs, us, ev, rq⟩ s (((w.setCell ⟨b, 0, none⟩ (.int .i64 9)).setCell ⟨g, m * 3, none⟩ (.int .i64 (sgn k)))) { (⟨8, ln, rl, er, es, rs, us, ev, rq⟩ : LK) with want := 9, rules := modLast (fun x => { x with sign := sgn k }) rs } s := by
    have N := (LNext.refl H.out).put (l2 := { (⟨8, ln, rl, er, es, rs, us, ev, rq⟩ : LK) with want := 9 }) 0 _ rfl rfl rfl rfl
    exact (N.trans (N.lk.ruleMod HM.out.1 HM.out.2 (fun x => { x with sign := sgn k }) 0 _ (by decide) (fun _ => rfl)))
  have HN : Hid (LNext B b w ⟨8, ln, rl, er, es, rs, us, ev, rq⟩ s (((w.setCell ⟨b, 0, none⟩ (.int .i64 9)).setCell ⟨g, m * 3, none⟩ (.int .i64 (sgn k)))) { (⟨8, ln, rl, er, es, rs, us, ev, rq⟩ : LK) with want := 9, rules := modLast (fun x => { x with sign := sgn k }) rs } s) := hN
  clear hN
  obtain ⟨sg, hsg⟩ : ∃ sg, sgn k = sg := ⟨_, rfl⟩
  unfold tkV
  rw [hsg] at HN ⊢
  obtain ⟨kd, ru, at_, tx⟩ := k
  by_cases hT : sg = 0
  · subst hT
    rw [if_pos rfl]
    go_enter Tryz.func113, Tryz.ntmps113
    go_wp2_with fail
    go_region
    go_wp2_with fail
    go_end0
    refine ⟨rfl, s, ?_⟩
    exact ((HN.out.put (l2 := { (⟨8, ln, rl, er, es, rs, us, ev, rq⟩ : LK) with want := 9, rules := modLast (fun x => { x with sign := 0 }) rs, e := 2 }) 3 _ rfl rfl rfl rfl).aside (below_alloc1 _)).aside ((Below.refl _ _).drew)
  · rw [if_neg hT]
    have hT' : ((sg : Int) == 0) = false := by simpa using hT
    go_enter Tryz.func113, Tryz.ntmps113
    go_wp2_with fail
    go_region
    go_wp2_with fail
    go_end0
    refine ⟨rfl, s, ?_⟩
    exact (HN.out.aside (below_alloc1 _)).aside ((Below.refl _ _).drew)
set_option maxRecDepth 100000 in
set_option maxHeartbeats 3200000 in
theorem rnext_m {B b : Nat} {w : World} {l : LK} {s : LS} (k : Dsr.Tok) (h : LkAt B b w l s) (hw : l.want = 4 ∨ l.want = 5 ∨ l.want = 6) (he : 0 < l.events.length) (hle : l.events.length ≤ 1000) :
    Calls Tryz.prog 113 #[ptrL b, tkV k] w fun e w' => e = .returned (.tuple #[]) ∧ ∃ s', LNext B b w l s w' (nextP l k) s' := by
  obtain ⟨wt, ln, rl, er, es, rs, us, ev, rq⟩ := l
  have A0 := (LNext.refl h).aside (below_alloc1 (tokO k))
  have HA : Hid (LNext B b w ⟨wt, ln, rl, er, es, rs, us, ev, rq⟩ s (w.alloc (tokO k)) ⟨wt, ln, rl, er, es, rs, us, ev, rq⟩ s) := A0
  obtain ⟨c0, c1, c2, c3, c4, c5, c6, c7, c8, fz⟩ := h.cells
  have hlt := h.lt
  clear A0
  have HP : Hid (nextP ⟨wt, ln, rl, er, es, rs, us, ev, rq⟩ k = markP ⟨wt, ln, rl, er, es, rs, us, ev, rq⟩ k) := by show _ = _; rcases hw with h | h | h <;> (have h : wt = _ := h; subst h; rfl)
  rw [HP.out]
  have HB := fun (w1 : World) (h1 : LkAt B b w1 ⟨wt, ln, rl, er, es, rs, us, ev, rq⟩ s) => rmark_any k h1 he hle hw
  have HB2 : Hid (∀ (w1 : World), LkAt B b w1 ⟨wt, ln, rl, er, es, rs, us, ev, rq⟩ s → _) := HB
  clear HB HP h
  have hw : wt = 4 ∨ wt = 5 ∨ wt = 6 := hw
  rcases hw with rfl | rfl | rfl
  all_goals
    go_enter Tryz.func113, Tryz.ntmps113
    go_wp2_with fail
    refine (HB2.out _ HA.out.lk).mono ?_
    rintro e w1 ⟨rfl, s1, N1⟩
    have HN1 : Hid (LNext B b w _ s w1 (markP _ k) s1) := HA.out.trans N1
    clear N1
    go_wp2_with fail
    go_end0
    exact ⟨rfl, s1, HN1.out⟩
end Go.Proofs.YtjmcokcdaddpcaaGreatDoor
