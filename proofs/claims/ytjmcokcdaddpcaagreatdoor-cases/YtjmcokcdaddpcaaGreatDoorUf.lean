import Derived.Test.YtjmcokcdaddpcaaGreatDoorUe
set_option linter.unusedVariables false
set_option linter.unusedSimpArgs false
namespace Go.Proofs.YtjmcokcdaddpcaaGreatDoor
open Go.RowKit
theorem own_at {w : World} {B : Nat} {e : TypeId} {m g c n : Nat} {xs : List Value} (h : w.ownsRow B e m (.slice (some ⟨g, 0, none⟩) n c) n xs) {j : Nat} {u : Value} (hu : xs[j]? = some u) : w.cell? ⟨g, j, none⟩ = some u := by
  have := h.cells (g := g) rfl j u hu
  simpa [Addr.add_lit] using this
theorem own_thaw {w : World} {B : Nat} {e : TypeId} {m g c n : Nat} {xs : List Value} (h : w.ownsRow B e m (.slice (some ⟨g, 0, none⟩) n c) n xs) (j : Nat) : w.frozen? ⟨g, j, none⟩ = false := by
  rcases h.2 with ⟨h1, _⟩ | ⟨g', cap, cur, h1, _, h2, _⟩
  · cases h1
  · injection h1 with h1
    injection h1 with h1
    injection h1 with h1
    subst h1
    simp [World.frozen?, h2]
theorem flatM2 {α β : Type} (m : Nat) (f : α → List β) (hf : ∀ a, (f a).length = m) : ∀ (us : List α) (k : Nat) (u : α) (j : Nat), us[k]? = some u → j < m → (us.flatMap f)[k * m + j]? = (f u)[j]?
  | [], k, u, j, h, _ => by simp at h
  | a :: us, 0, u, j, h, hj => by
    have e : a = u := by simpa using h
    subst e
    rw [List.flatMap_cons, Nat.zero_mul, Nat.zero_add, List.getElem?_append_left (by rw [hf]; exact hj)]
  | a :: us, k + 1, u, j, h, hj => by
    have h' : us[k]? = some u := by simpa using h
    have e1 : (k + 1) * m + j = m + (k * m + j) := by rw [Nat.succ_mul]; omega
    rw [List.flatMap_cons, e1, List.getElem?_append_right (by rw [hf]; omega), hf, Nat.add_sub_cancel_left]
    exact flatM2 m f hf us k u j h' hj
theorem evCells_at2 : ∀ (es : List Dsr.Ev) (rv : List Value) (k : Nat) (e : Dsr.Ev) (v : Value) (j : Nat), es[k]? = some e → rv[k]? = some v → j < 5 → (evCells es rv)[k * 5 + j]? = (evC e v)[j]?
  | [], _, k, e, v, j, h, _, _ => by simp at h
  | a :: es, [], k, e, v, j, _, h, _ => by simp at h
  | a :: es, b :: rv, 0, e, v, j, h, h', hj => by
    have e1 : a = e := by simpa using h
    have e2 : b = v := by simpa using h'
    subst e1 e2
    rw [evCells, Nat.zero_mul, Nat.zero_add, List.getElem?_append_left (by simpa [evC] using hj)]
  | a :: es, b :: rv, k + 1, e, v, j, h, h', hj => by
    have e1 : es[k]? = some e := by simpa using h
    have e2 : rv[k]? = some v := by simpa using h'
    have e3 : (k + 1) * 5 + j = 5 + (k * 5 + j) := by omega
    rw [evCells, e3, List.getElem?_append_right (by simp [evC])]
    have e4 : 5 + (k * 5 + j) - (evC a b).length = k * 5 + j := by simp [evC]
    rw [e4]
    exact evCells_at2 es rv k e v j e1 e2 hj
/-- The last event lies here. -/
theorem LkAt.lastEv {B b : Nat} {w : World} {l : LK} {s : LS} (h : LkAt B b w l s) (hn : 0 < l.events.length) : ∃ g c m x v, s.ve = .slice (some ⟨g, 0, none⟩) (m + 1) c ∧ l.events.length = m + 1 ∧ l.events[m]? = some x ∧ s.rv[m]? = some v ∧ g ≠ b ∧
    w.cell? ⟨g, m * 5, none⟩ = some (strV x.name) ∧ w.cell? ⟨g, m * 5 + 1, none⟩ = some v ∧ w.cell? ⟨g, m * 5 + 2, none⟩ = some (.bool x.done) ∧ w.cell? ⟨g, m * 5 + 3, none⟩ = some (.bool x.inn) ∧ w.cell? ⟨g, m * 5 + 4, none⟩ = some (.bool x.due) ∧ (∀ o, w.frozen? ⟨g, o, none⟩ = false) ∧ m + 1 ≤ c ∧ c ≤ maxLen := by
  obtain ⟨m, hm⟩ : ∃ m, l.events.length = m + 1 := ⟨l.events.length - 1, by omega⟩
  have ho := h.own0
  rcases ho.2 with ⟨_, h1⟩ | ⟨g, c, cur, h1, _, h2, h3, h4, _⟩
  · omega
  · obtain ⟨x, hx⟩ : ∃ x, l.events[m]? = some x := ⟨_, List.getElem?_eq_getElem (by omega)⟩
    obtain ⟨v, hv⟩ : ∃ v, s.rv[m]? = some v := ⟨_, List.getElem?_eq_getElem (by rw [h.len]; omega)⟩
    rw [h1] at ho
    have e := fun j hj => evCells_at2 l.events s.rv m x v j hx hv hj
    refine ⟨g, c, m, x, v, by rw [h1, hm], hm, hx, hv, ?_, ?_, ?_, ?_, ?_, ?_, ?_, by omega, h4⟩
    · exact fun e => h.rows.notFixed (r := ⟨s.ve, 226, 5, l.events.length, evCells l.events s.rv⟩) (by simp [lkRows]) (k := g) (by rw [h1]; rfl) (by simp [e])
    · exact own_at ho ((e 0 (by omega)).trans rfl)
    · exact own_at ho ((e 1 (by omega)).trans rfl)
    · exact own_at ho ((e 2 (by omega)).trans rfl)
    · exact own_at ho ((e 3 (by omega)).trans rfl)
    · exact own_at ho ((e 4 (by omega)).trans rfl)
    · exact fun o => own_thaw ho o
theorem LkAt.lastRu {B b : Nat} {w : World} {l : LK} {s : LS} (h : LkAt B b w l s) (hn : 0 < l.rules.length) : ∃ g c m x, s.vr = .slice (some ⟨g, 0, none⟩) (m + 1) c ∧ l.rules.length = m + 1 ∧ l.rules[m]? = some x ∧ g ≠ b ∧
    w.cell? ⟨g, m * 3, none⟩ = some (.int .i64 x.sign) ∧ w.cell? ⟨g, m * 3 + 1, none⟩ = some (strV x.left) ∧ w.cell? ⟨g, m * 3 + 2, none⟩ = some (strV x.right) ∧ (∀ o, w.frozen? ⟨g, o, none⟩ = false) ∧ m + 1 ≤ c ∧ c ≤ maxLen := by
  obtain ⟨m, hm⟩ : ∃ m, l.rules.length = m + 1 := ⟨l.rules.length - 1, by omega⟩
  have ho := h.own1
  rcases ho.2 with ⟨_, h1⟩ | ⟨g, c, cur, h1, _, h2, h3, h4, _⟩
  · omega
  · obtain ⟨x, hx⟩ : ∃ x, l.rules[m]? = some x := ⟨_, List.getElem?_eq_getElem (by omega)⟩
    rw [h1] at ho
    have e := fun j hj => flatM2 3 rrC (fun _ => rfl) l.rules m x j hx hj
    refine ⟨g, c, m, x, by rw [h1, hm], hm, hx, ?_, ?_, ?_, ?_, ?_, by omega, h4⟩
    · exact fun e => h.rows.notFixed (r := ⟨s.vr, 269, 3, l.rules.length, l.rules.flatMap rrC⟩) (by simp [lkRows]) (k := g) (by rw [h1]; rfl) (by simp [e])
    · exact own_at ho ((e 0 (by omega)).trans rfl)
    · exact own_at ho ((e 1 (by omega)).trans rfl)
    · exact own_at ho ((e 2 (by omega)).trans rfl)
    · exact fun o => own_thaw ho o
end Go.Proofs.YtjmcokcdaddpcaaGreatDoor
set_option linter.unusedVariables false
set_option linter.unusedSimpArgs false
namespace Go.Proofs.YtjmcokcdaddpcaaGreatDoor
open Go.RowKit
abbrev ptrM (b : Nat) : Value := .pointer (some ⟨b, 0, none⟩)
theorem LkAt.cellsM {B b : Nat} {w : World} {l : LK} {s : LS} (h : LkAt B b w l s) :
    w.cell? ⟨b, 0, none⟩ = some (.int .i64 l.want) ∧ w.cell? ⟨b, 3, none⟩ = some (.int .i64 l.e) ∧ w.cell? ⟨b, 4, none⟩ = some s.ve ∧ (∀ o, w.frozen? ⟨b, o, none⟩ = false) := by
  have hb := h.blk
  refine ⟨?_, ?_, ?_, ?_⟩
  all_goals first
    | (intro o; simp [World.frozen?, hb])
    | simp [World.cell?, hb]
set_option maxRecDepth 100000 in
set_option maxHeartbeats 3200000 in
theorem rmark_any {B b : Nat} {w : World} {l : LK} {s : LS} (k : Dsr.Tok) (h : LkAt B b w l s) (he : 0 < l.events.length) (hle : l.events.length ≤ 1000) (hw : l.want = 4 ∨ l.want = 5 ∨ l.want = 6) :
    Calls Tryz.prog 164 #[ptrM b, tkV k] w fun e w' => e = .returned (.tuple #[]) ∧ ∃ s', LNext B b w l s w' (markP l k) s' := by
  obtain ⟨kd, ru, at_, tx⟩ := k
  obtain ⟨wt, ln, rl, er, es, rs, us, ev, rq⟩ := l
  have A0 : LNext B b w ⟨wt, ln, rl, er, es, rs, us, ev, rq⟩ s (w.alloc (.cells #[strV tx, .int .i64 at_, .bool (isW ⟨kd, ru, at_, tx⟩), .int .i64 (sgn ⟨kd, ru, at_, tx⟩)] 223) ) ⟨wt, ln, rl, er, es, rs, us, ev, rq⟩ s := (LNext.refl h).aside ((Below.refl _ _).alloc (Nat.le_refl _) _)
  have HA : Hid (LNext B b w ⟨wt, ln, rl, er, es, rs, us, ev, rq⟩ s (w.alloc (.cells #[strV tx, .int .i64 at_, .bool (isW ⟨kd, ru, at_, tx⟩), .int .i64 (sgn ⟨kd, ru, at_, tx⟩)] 223) ) ⟨wt, ln, rl, er, es, rs, us, ev, rq⟩ s) := A0
  obtain ⟨g, c, m, x, v, hv, hm, hx, hvx, hgb, e0, e1, e2, e3, e4, ez, hmc, hc⟩ := h.lastEv he
  obtain ⟨c0, c3, c4, fz⟩ := h.cellsM
  rw [hv] at c4
  have hlt := h.lt
  have hglt : g < w.heap.size := World.block_lt_of_cell? _ _ e0
  have HM : Hid (s.ve = .slice (some ⟨g, 0, none⟩) (m + 1) c ∧ es.length = m + 1) := ⟨hv, hm⟩
  have hmI : (m : Int) ≤ 1000 := by omega
  have HP : ∃ p, Hid (markP ⟨wt, ln, rl, er, es, rs, us, ev, rq⟩ ⟨kd, ru, at_, tx⟩ = p) := ⟨_, rfl⟩
  obtain ⟨lp, HP⟩ := HP
  have hP := HP.out
  rw [HP.out]
  have hw : wt = 4 ∨ wt = 5 ∨ wt = 6 := hw
  clear h A0 hv hm hx hvx hle he HP
  have hind : ((m : Int) < (m : Int) + 1) := by omega
  go_enter Tryz.func164, Tryz.ntmps164
  go_wp2_with fail
  go_quiet (fail)
  have HB : Hid (LNext B b w ⟨wt, ln, rl, er, es, rs, us, ev, rq⟩ s ((w.alloc (.cells #[strV tx, .int .i64 at_, .bool (isW ⟨kd, ru, at_, tx⟩), .int .i64 (sgn ⟨kd, ru, at_, tx⟩)] 223)).drewN nq ) ⟨wt, ln, rl, er, es, rs, us, ev, rq⟩ s) := HA.out.aside ⟨rfl, rfl, rfl, Nat.le_refl _, fun _ _ => rfl⟩
  clear HA
  by_cases t1 : tx = [44]
  · subst t1
    rcases hw with rfl | rfl | rfl
    · simp [markP] at hP
      subst hP
      go_wp2_with fail
      go_end0
      refine ⟨rfl, s, ?_⟩
      exact HB.out.put 0 _ rfl rfl rfl rfl
    · simp [markP] at hP
      subst hP
      go_wp2_with fail
      go_end0
      refine ⟨rfl, s, ?_⟩
      exact HB.out.put 3 _ rfl rfl rfl rfl
    · simp [markP] at hP
      subst hP
      go_wp2_with fail
      go_end0
      refine ⟨rfl, s, ?_⟩
      exact HB.out.put 3 _ rfl rfl rfl rfl
  by_cases t2 : tx = [111, 117, 116]
  · subst t2
    rcases hw with rfl | rfl | rfl
    · simp [markP] at hP
      subst hP
      go_wp2_with fail
      go_end0
      refine ⟨rfl, s, ?_⟩
      exact (HB.out.trans (HB.out.lk.eventMod HM.out.1 HM.out.2 (fun x => { x with inn := false }) 3 _ (by decide) (fun _ _ => rfl) (fun _ => rfl))).put 0 _ rfl rfl rfl rfl
    · simp [markP] at hP
      subst hP
      go_wp2_with fail
      go_end0
      refine ⟨rfl, s, ?_⟩
      exact HB.out.put 3 _ rfl rfl rfl rfl
    · simp [markP] at hP
      subst hP
      go_wp2_with fail
      go_end0
      refine ⟨rfl, s, ?_⟩
      exact HB.out.put 3 _ rfl rfl rfl rfl
  by_cases t3 : tx = [100, 117, 101]
  · subst t3
    rcases hw with rfl | rfl | rfl
    · simp [markP] at hP
      subst hP
      go_wp2_with fail
      go_end0
      refine ⟨rfl, s, ?_⟩
      exact (HB.out.trans (HB.out.lk.eventMod HM.out.1 HM.out.2 (fun x => { x with due := true }) 4 _ (by decide) (fun _ _ => rfl) (fun _ => rfl))).put 0 _ rfl rfl rfl rfl
    · simp [markP] at hP
      subst hP
      go_wp2_with fail
      go_end0
      refine ⟨rfl, s, ?_⟩
      exact (HB.out.trans (HB.out.lk.eventMod HM.out.1 HM.out.2 (fun x => { x with due := true }) 4 _ (by decide) (fun _ _ => rfl) (fun _ => rfl))).put 0 _ rfl rfl rfl rfl
    · simp [markP] at hP
      subst hP
      go_wp2_with fail
      go_end0
      refine ⟨rfl, s, ?_⟩
      exact HB.out.put 3 _ rfl rfl rfl rfl
  by_cases t4 : tx = [100, 111, 110, 101]
  · subst t4
    rcases hw with rfl | rfl | rfl
    · simp [markP] at hP
      subst hP
      go_wp2_with fail
      go_end0
      refine ⟨rfl, s, ?_⟩
      exact (HB.out.trans (HB.out.lk.eventMod HM.out.1 HM.out.2 (fun x => { x with done := true }) 2 _ (by decide) (fun _ _ => rfl) (fun _ => rfl))).put 0 _ rfl rfl rfl rfl
    · simp [markP] at hP
      subst hP
      go_wp2_with fail
      go_end0
      refine ⟨rfl, s, ?_⟩
      exact (HB.out.trans (HB.out.lk.eventMod HM.out.1 HM.out.2 (fun x => { x with done := true }) 2 _ (by decide) (fun _ _ => rfl) (fun _ => rfl))).put 0 _ rfl rfl rfl rfl
    · simp [markP] at hP
      subst hP
      go_wp2_with fail
      go_end0
      refine ⟨rfl, s, ?_⟩
      exact (HB.out.trans (HB.out.lk.eventMod HM.out.1 HM.out.2 (fun x => { x with done := true }) 2 _ (by decide) (fun _ _ => rfl) (fun _ => rfl))).put 0 _ rfl rfl rfl rfl
  by_cases t5 : tx = [59]
  · subst t5
    rcases hw with rfl | rfl | rfl
    · simp [markP] at hP
      subst hP
      go_wp2_with fail
      go_end0
      refine ⟨rfl, s, ?_⟩
      exact HB.out.put 0 _ rfl rfl rfl rfl
    · simp [markP] at hP
      subst hP
      go_wp2_with fail
      go_end0
      refine ⟨rfl, s, ?_⟩
      exact HB.out.put 0 _ rfl rfl rfl rfl
    · simp [markP] at hP
      subst hP
      go_wp2_with fail
      go_end0
      refine ⟨rfl, s, ?_⟩
      exact HB.out.put 0 _ rfl rfl rfl rfl
  have b1 : (tx == [44]) = false := beq_eq_false_iff_ne.2 t1
  have b2 : (tx == [111, 117, 116]) = false := beq_eq_false_iff_ne.2 t2
  have b3 : (tx == [100, 117, 101]) = false := beq_eq_false_iff_ne.2 t3
  have b4 : (tx == [100, 111, 110, 101]) = false := beq_eq_false_iff_ne.2 t4
  have b5 : (tx == [59]) = false := beq_eq_false_iff_ne.2 t5
  rcases hw with rfl | rfl | rfl
  · simp [markP, t1, t2, t3, t4, t5] at hP
    subst hP
    clear t1 t2 t3 t4 t5
    go_wp2_with fail
    go_end0
    refine ⟨rfl, s, ?_⟩
    exact HB.out.put 3 _ rfl rfl rfl rfl
  · simp [markP, t1, t2, t3, t4, t5] at hP
    subst hP
    clear t1 t2 t3 t4 t5
    go_wp2_with fail
    go_end0
    refine ⟨rfl, s, ?_⟩
    exact HB.out.put 3 _ rfl rfl rfl rfl
  · simp [markP, t1, t2, t3, t4, t5] at hP
    subst hP
    clear t1 t2 t3 t4 t5
    go_wp2_with fail
    go_end0
    refine ⟨rfl, s, ?_⟩
    exact HB.out.put 3 _ rfl rfl rfl rfl
end Go.Proofs.YtjmcokcdaddpcaaGreatDoor
