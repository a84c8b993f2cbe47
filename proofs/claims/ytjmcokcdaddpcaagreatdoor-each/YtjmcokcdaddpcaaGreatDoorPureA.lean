import Derived.Test.YtjmcokcdaddpcaaGreatDoorUa
/- What the reader has gathered is small. -/
namespace Dsr
structure TokOk (T : Nat) (k : Tok) : Prop where
  rule : k.rule < 5
  text : k.text.length ≤ T
structure EvOk (T : Nat) (e : Ev) : Prop where
  name : e.name.length ≤ T
  some : 0 < e.roles.length
  few : e.roles.length ≤ 6
  role : ∀ x ∈ e.roles, x.length ≤ T
structure RlOk (T : Nat) (r : Rl) : Prop where
  kind : r.kind < 5
  left : r.left.length ≤ T
  right : r.right.length ≤ T
structure RdOk (T : Nat) (r : Rd) : Prop where
  now : TokOk T r.now
  ev : ∀ e ∈ r.events, EvOk T e
  ru : ∀ e ∈ r.rules, RlOk T e
theorem scan_tok (t : List UInt8) (n : Nat) (h : n ≤ t.length) : TokOk t.length (scan t n) := by
  refine ⟨?_, by have := scan_ok t n h; omega⟩
  unfold scan
  generalize n + blankLen (t.drop n) = k
  unfold scanAt
  split
  · show (0 : Nat) < 5; decide
  · split
    · show (0 : Nat) < 5; decide
    · unfold scanSign
      split
      · assumption
      · show (0 : Nat) < 5; decide
theorem end_tok (t : List UInt8) : TokOk t.length ⟨10, 0, t.length, []⟩ := ⟨by show (0 : Nat) < 5; decide, by simp⟩
theorem refuse_rd {t : List UInt8} {r : Rd} (h : RdOk t.length r) (e : Nat) : RdOk t.length (refuse t r e) := ⟨end_tok t, h.ev, h.ru⟩
theorem step_rd {t : List UInt8} {r : Rd} (h : RdOk t.length r) (ho : r.ok t) : RdOk t.length (step t r) := ⟨scan_tok t _ ho, h.ev, h.ru⟩
theorem takeIf_rd {t : List UInt8} {r : Rd} (h : RdOk t.length r) (ho : r.ok t) (k : Nat) : RdOk t.length (takeIf t r k) := by unfold takeIf; split; exact step_rd h ho; exact h
theorem take_rd {t : List UInt8} {r : Rd} (h : RdOk t.length r) (ho : r.ok t) (k : Nat) : RdOk t.length (take t r k) := by unfold take; split; exact step_rd h ho; exact refuse_rd h _
theorem nameSize_rd {t : List UInt8} {r : Rd} (h : RdOk t.length r) : RdOk t.length (nameSize t r) := by unfold nameSize; split; exact refuse_rd h _; exact h
theorem uses_rd {T : Nat} {r : Rd} (h : RdOk T r) (us : List Us) : RdOk T { r with uses := us } := ⟨h.now, h.ev, h.ru⟩
theorem uses_ok {t : List UInt8} {r : Rd} (h : r.ok t) (us : List Us) : ({ r with uses := us } : Rd).ok t := h
theorem name_rd {t : List UInt8} {r : Rd} (h : RdOk t.length r) (ho : r.ok t) (a : Nat) : RdOk t.length (name t r a) :=
  take_rd (uses_rd (nameSize_rd h) _) (uses_ok (nameSize_ok ho) _) 1
theorem rolesSize_rd {t : List UInt8} {r : Rd} (h : RdOk t.length r) (n : Nat) : RdOk t.length (rolesSize t r n) := by unfold rolesSize; split; exact refuse_rd h _; exact h
theorem rolesLoop_rd {t : List UInt8} : ∀ (f : Nat) (r : Rd) (l : List (List UInt8)), RdOk t.length r → r.ok t → 0 < l.length → (∀ x ∈ l, x.length ≤ t.length) →
    RdOk t.length (rolesLoop t f r l).1 ∧ 0 < (rolesLoop t f r l).2.length ∧ (rolesLoop t f r l).2.length ≤ l.length + f ∧ (∀ x ∈ (rolesLoop t f r l).2, x.length ≤ t.length)
  | 0, r, l, h, ho, h0, hl => ⟨h, h0, Nat.le_refl _, hl⟩
  | f + 1, r, l, h, ho, h0, hl => by
    unfold rolesLoop
    split
    · have h1 := rolesSize_rd (step_rd h ho) l.length
      have o1 : (rolesSize t (step t r) l.length).ok t := rolesSize_ok (step_ok ho) _
      obtain ⟨a, b, c, d⟩ := rolesLoop_rd f (name t (rolesSize t (step t r) l.length) 1) (l ++ [(rolesSize t (step t r) l.length).now.text]) (name_rd h1 o1 1) (name_ok o1 1) (by simp) (by
        intro x hx
        rcases List.mem_append.1 hx with hx | hx
        · exact hl x hx
        · rw [List.mem_singleton.1 hx]; exact h1.now.text)
      refine ⟨a, b, ?_, d⟩
      rw [List.length_append, List.length_singleton] at c
      omega
    · exact ⟨h, h0, by show l.length ≤ _; omega, hl⟩
theorem roles_rd {t : List UInt8} {r : Rd} (h : RdOk t.length r) (ho : r.ok t) :
    RdOk t.length (roles t r).1 ∧ 0 < (roles t r).2.length ∧ (roles t r).2.length ≤ 6 ∧ (∀ x ∈ (roles t r).2, x.length ≤ t.length) :=
  rolesLoop_rd 5 (name t r 1) [r.now.text] (name_rd h ho 1) (name_ok ho 1) (by simp) (by intro x hx; rw [List.mem_singleton.1 hx]; exact h.now.text)
theorem markRd_rd {t : List UInt8} {r : Rd} (h : RdOk t.length r) (ho : r.ok t) : RdOk t.length (markRd t r) :=
  takeIf_rd (takeIf_rd (takeIf_rd h ho 4) (takeIf_ok ho 4) 5) (takeIf_ok (takeIf_ok ho 4) 5) 6
theorem evHead_rd {t : List UInt8} {r : Rd} (h : RdOk t.length r) (ho : r.ok t) : RdOk t.length (evHead t r) :=
  take_rd (name_rd (take_rd h ho 2) (take_ok ho 2) 0) (name_ok (take_ok ho 2) 0) 3
theorem evBody_rd {t : List UInt8} {r : Rd} (h : RdOk t.length r) (ho : r.ok t) : RdOk t.length (evBody t r) :=
  take_rd (markRd_rd (roles_rd (evHead_rd h ho) (evHead_ok ho)).1 (roles_ok (evHead_ok ho))) (markRd_ok (roles_ok (evHead_ok ho))) 8
theorem evOf_ok {t : List UInt8} {r : Rd} (h : RdOk t.length r) (ho : r.ok t) : EvOk t.length (evOf t r) := by
  obtain ⟨_, b, c, d⟩ := roles_rd (evHead_rd h ho) (evHead_ok ho)
  have a := (take_rd h ho 2).now.text
  unfold evOf
  generalize roles t (evHead t r) = q at *
  generalize take t r 2 = q2 at *
  exact ⟨a, b, c, d⟩
theorem snoc_ev {T : Nat} {r : Rd} (h : RdOk T r) {e : Ev} (he : EvOk T e) : RdOk T { r with events := r.events ++ [e] } :=
  ⟨h.now, fun x hx => by
    rcases List.mem_append.1 hx with hx | hx
    · exact h.ev x hx
    · rw [List.mem_singleton.1 hx]; exact he, h.ru⟩
theorem snoc_ru {T : Nat} {r : Rd} (h : RdOk T r) {e : Rl} (he : RlOk T e) : RdOk T { r with rules := r.rules ++ [e] } :=
  ⟨h.now, h.ev, fun x hx => by
    rcases List.mem_append.1 hx with hx | hx
    · exact h.ru x hx
    · rw [List.mem_singleton.1 hx]; exact he⟩
theorem event_rd {t : List UInt8} {r : Rd} (h : RdOk t.length r) (ho : r.ok t) : RdOk t.length (event t r) := by
  unfold event; split
  · exact refuse_rd h _
  · exact snoc_ev (evBody_rd h ho) (evOf_ok h ho)
theorem ruHead_rd {t : List UInt8} {r : Rd} (h : RdOk t.length r) (ho : r.ok t) : RdOk t.length (ruHead t r) := take_rd (name_rd h ho 2) (name_ok ho 2) 9
theorem ruBody_rd {t : List UInt8} {r : Rd} (h : RdOk t.length r) (ho : r.ok t) : RdOk t.length (ruBody t r) :=
  take_rd (name_rd (ruHead_rd h ho) (ruHead_ok ho) 2) (name_ok (ruHead_ok ho) 2) 8
theorem rule_rd {t : List UInt8} {r : Rd} (h : RdOk t.length r) (ho : r.ok t) : RdOk t.length (rule t r) := by
  unfold rule; split
  · exact refuse_rd h _
  · exact snoc_ru (ruBody_rd h ho) ⟨(name_rd h ho 2).now.rule, h.now.text, (ruHead_rd h ho).now.text⟩
theorem lines_rd {t : List UInt8} : ∀ (f : Nat) (r : Rd), RdOk t.length r → r.ok t → RdOk t.length (lines t f r)
  | 0, r, h, _ => h
  | f + 1, r, h, ho => by
    unfold lines
    split
    · exact h
    · split
      · exact lines_rd f _ (event_rd h ho) (event_ok ho)
      · split
        · exact lines_rd f _ (rule_rd h ho) (rule_ok ho)
        · exact lines_rd f _ (refuse_rd h 2) (refuse_ok 2)
theorem newRd_rd (t : List UInt8) : RdOk t.length (newRd t) := ⟨scan_tok t 0 (Nat.zero_le _), fun _ h => (by simp [newRd] at h), fun _ h => (by simp [newRd] at h)⟩
theorem newRd_ok (t : List UInt8) : (newRd t).ok t := scan_ok t 0 (Nat.zero_le _)
/-- The text, read. -/
def readR (t : List UInt8) : Rd := lines t 32 (newRd t)
theorem readR_rd (t : List UInt8) : RdOk t.length (readR t) := lines_rd 32 _ (newRd_rd t) (newRd_ok t)
/-- How many there are. -/
theorem lines_fine {t : List UInt8} {r0 : Rd} : ∀ (f : Nat) (r : Rd), Fine t r0 f r → (lines t f r).events.length ≤ 10 ∧ (lines t f r).rules.length ≤ 20 ∧ (lines t f r).uses.length ≤ 110
  | 0, r, h => by
    have := h.ev; have := h.ru; have := h.us
    exact ⟨h.ev, h.ru, by show r.uses.length ≤ 110; omega⟩
  | f + 1, r, h => by
    by_cases h10 : r.now.kind = 10
    · rw [lines_end _ _ _ h10]
      have := h.ev; have := h.ru; have := h.us
      exact ⟨h.ev, h.ru, by omega⟩
    · by_cases h2 : r.now.kind = 2
      · have e : lines t (f + 1) r = lines t f (event t r) := by rw [lines, if_neg h10, if_pos h2]
        rw [e]; exact lines_fine f _ (h.onEvent h2).1
      · by_cases h1 : r.now.kind = 1
        · have e : lines t (f + 1) r = lines t f (rule t r) := by rw [lines, if_neg h10, if_neg h2, if_pos h1]
          rw [e]; exact lines_fine f _ (h.onRule h1).1
        · have e : lines t (f + 1) r = lines t f (refuse t r 2) := by rw [lines, if_neg h10, if_neg h2, if_neg h1]
          rw [e]; exact lines_fine f _ (h.onElse h10 h2 h1).1
theorem readR_few (t : List UInt8) (ht : t.length ≤ 400) : (readR t).events.length ≤ 10 ∧ (readR t).rules.length ≤ 20 ∧ (readR t).uses.length ≤ 110 := lines_fine 32 _ (Fine.start t ht)
theorem join_len (l : List (List UInt8)) (T : Nat) (h : ∀ x ∈ l, x.length ≤ T) : (joinC l).length ≤ l.length * (T + 2) := by
  unfold joinC
  induction l with
  | nil => simp [List.intercalate]
  | cons a l ih =>
    have ha := h a (by simp)
    have ih' := ih (fun x hx => h x (by simp [hx]))
    rcases l with _ | ⟨b, l⟩
    · simp [List.intercalate]; omega
    · have e : ([44, 32] : List UInt8).intercalate (a :: b :: l) = a ++ ([44, 32] ++ ([44, 32] : List UInt8).intercalate (b :: l)) := by
        simp [List.intercalate]
      rw [e]
      simp only [List.length_append, List.length_cons, List.length_nil] at ih' ⊢
      rw [Nat.succ_mul]
      omega
end Dsr
