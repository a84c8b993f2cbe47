import Derived.Test.YtjmcokcdaddpcaaGreatDoorPure3
namespace Dsr
theorem ok_events {t : List UInt8} {r : Rd} (h : r.ok t) (es : List Ev) : ({ r with events := es } : Rd).ok t := h
theorem ok_rules {t : List UInt8} {r : Rd} (h : r.ok t) (es : List Rl) : ({ r with rules := es } : Rd).ok t := h
theorem evHead_ok {t : List UInt8} {r : Rd} (h : r.ok t) : (evHead t r).ok t := take_ok (name_ok (take_ok h 2) 0) 3
theorem evHead_lists (t : List UInt8) (r : Rd) : (evHead t r).events = r.events ∧ (evHead t r).rules = r.rules ∧ (evHead t r).uses.length = r.uses.length + 1 := by
  unfold evHead
  obtain ⟨a1, a2, a3⟩ := take_lists t (name t (take t r 2) 0) 3
  obtain ⟨b1, b2, b3⟩ := name_lists t (take t r 2) 0
  obtain ⟨c1, c2, c3⟩ := take_lists t r 2
  rw [a1, a2, a3, b1, b2, b3, c1, c2, c3]
  exact ⟨rfl, rfl, rfl⟩
theorem evBody_ok {t : List UInt8} {r : Rd} (h : r.ok t) : (evBody t r).ok t := take_ok (markRd_ok (roles_ok (evHead_ok h))) 8
theorem evBody_lists (t : List UInt8) (r : Rd) : (evBody t r).events = r.events ∧ (evBody t r).rules = r.rules ∧ (evBody t r).uses.length ≤ r.uses.length + 7 := by
  unfold evBody
  obtain ⟨a1, a2, a3⟩ := take_lists t (markRd t (roles t (evHead t r)).1) 8
  obtain ⟨b1, b2, b3⟩ := markRd_lists t (roles t (evHead t r)).1
  obtain ⟨c1, c2, c3⟩ := roles_lists t (evHead t r)
  obtain ⟨d1, d2, d3⟩ := evHead_lists t r
  rw [a1, a2, a3, b1, b2, b3, c1, c2, d1, d2]
  exact ⟨rfl, rfl, by omega⟩
theorem event_ok {t : List UInt8} {r : Rd} (h : r.ok t) : (event t r).ok t := by
  unfold event; split
  · exact refuse_ok _
  · exact ok_events (evBody_ok h) _
theorem event_more (t : List UInt8) (r : Rd) (h : ¬ r.events.length = 10) : (event t r).events.length = r.events.length + 1 ∧ (event t r).rules = r.rules ∧ (event t r).uses.length ≤ r.uses.length + 7 := by
  obtain ⟨a1, a2, a3⟩ := evBody_lists t r
  unfold event; rw [if_neg h]
  generalize evBody t r = q at *
  exact ⟨by simp [a1], a2, a3⟩
theorem event_full (t : List UInt8) (r : Rd) (h : r.events.length = 10) : event t r = refuse t r 3 := by unfold event; rw [if_pos h]
theorem ruHead_ok {t : List UInt8} {r : Rd} (h : r.ok t) : (ruHead t r).ok t := take_ok (name_ok h 2) 9
theorem ruBody_ok {t : List UInt8} {r : Rd} (h : r.ok t) : (ruBody t r).ok t := take_ok (name_ok (ruHead_ok h) 2) 8
theorem ruBody_lists (t : List UInt8) (r : Rd) : (ruBody t r).events = r.events ∧ (ruBody t r).rules = r.rules ∧ (ruBody t r).uses.length = r.uses.length + 2 := by
  unfold ruBody ruHead
  obtain ⟨a1, a2, a3⟩ := take_lists t (name t (take t (name t r 2) 9) 2) 8
  obtain ⟨b1, b2, b3⟩ := name_lists t (take t (name t r 2) 9) 2
  obtain ⟨c1, c2, c3⟩ := take_lists t (name t r 2) 9
  obtain ⟨d1, d2, d3⟩ := name_lists t r 2
  rw [a1, a2, a3, b1, b2, b3, c1, c2, c3, d1, d2, d3]
  exact ⟨rfl, rfl, rfl⟩
theorem rule_ok {t : List UInt8} {r : Rd} (h : r.ok t) : (rule t r).ok t := by
  unfold rule; split
  · exact refuse_ok _
  · exact ok_rules (ruBody_ok h) _
theorem rule_more (t : List UInt8) (r : Rd) (h : ¬ r.rules.length = 20) : (rule t r).rules.length = r.rules.length + 1 ∧ (rule t r).events = r.events ∧ (rule t r).uses.length = r.uses.length + 2 := by
  obtain ⟨a1, a2, a3⟩ := ruBody_lists t r
  unfold rule; rw [if_neg h]
  generalize ruBody t r = q at *
  exact ⟨by simp [a2], a1, a3⟩
theorem rule_full (t : List UInt8) (r : Rd) (h : r.rules.length = 20) : rule t r = refuse t r 3 := by unfold rule; rw [if_pos h]
/-- So many rounds at most are to come. -/
def left (r : Rd) : Nat := 2 * (31 - r.events.length - r.rules.length) + if r.now.kind = 10 then 0 else 1
/-- What holds at each line's beginning. -/
structure Fine (t : List UInt8) (r0 : Rd) (f : Nat) (r : Rd) : Prop where
  eq : lines t f r = lines t 32 r0
  ok : r.ok t
  ev : r.events.length ≤ 10
  ru : r.rules.length ≤ 20
  us : r.uses.length ≤ 7 * r.events.length + 2 * r.rules.length
  fu : r.now.kind = 10 ∨ 31 ≤ f + r.events.length + r.rules.length
theorem lines_end (t : List UInt8) (f : Nat) (r : Rd) (h : r.now.kind = 10) : lines t f r = r := by
  cases f with
  | zero => rfl
  | succ f => unfold lines; rw [if_pos h]
theorem Fine.pos {t : List UInt8} {r0 r : Rd} {f : Nat} (h : Fine t r0 f r) (hk : ¬ r.now.kind = 10) : ∃ g, f = g + 1 := by
  rcases h.fu with h1 | h1
  · exact absurd h1 hk
  · have := h.ev; have := h.ru
    exact ⟨f - 1, by omega⟩
theorem Fine.onRefuse {t : List UInt8} {r0 r : Rd} {g : Nat} (h : Fine t r0 (g + 1) r) (e : Nat) (hk : ¬ r.now.kind = 10) (he : lines t (g + 1) r = lines t g (refuse t r e)) : Fine t r0 g (refuse t r e) ∧ left (refuse t r e) < left r :=
  ⟨⟨he.symm.trans h.eq, refuse_ok e, h.ev, h.ru, h.us, .inl rfl⟩, by
    have h1 : (Dsr.refuse t r e).events = r.events := rfl
    have h2 : (Dsr.refuse t r e).rules = r.rules := rfl
    have h3 : (Dsr.refuse t r e).now.kind = 10 := rfl
    unfold left; rw [h1, h2, h3, if_pos rfl, if_neg hk]; omega⟩
theorem Fine.onEvent {t : List UInt8} {r0 r : Rd} {g : Nat} (h : Fine t r0 (g + 1) r) (hk : r.now.kind = 2) : Fine t r0 g (event t r) ∧ left (event t r) < left r := by
  have hk' : ¬ r.now.kind = 10 := by omega
  have he : lines t (g + 1) r = lines t g (event t r) := by rw [lines, if_neg hk', if_pos hk]
  by_cases h10 : r.events.length = 10
  · rw [event_full t r h10] at he ⊢
    exact h.onRefuse 3 hk' he
  · obtain ⟨a1, a2, a3⟩ := event_more t r h10
    have := h.ev; have := h.ru; have := h.us
    refine ⟨⟨he.symm.trans h.eq, event_ok h.ok, by omega, by rw [a2]; omega, by rw [a1, a2]; omega, ?_⟩, ?_⟩
    · rcases h.fu with h1 | h1
      · exact absurd h1 hk'
      · right; rw [a1, a2]; omega
    · unfold left; rw [a1, a2, if_neg hk']; split <;> omega
theorem Fine.onRule {t : List UInt8} {r0 r : Rd} {g : Nat} (h : Fine t r0 (g + 1) r) (hk : r.now.kind = 1) : Fine t r0 g (rule t r) ∧ left (rule t r) < left r := by
  have hk' : ¬ r.now.kind = 10 := by omega
  have he : lines t (g + 1) r = lines t g (rule t r) := by rw [lines, if_neg hk', if_neg (by omega), if_pos hk]
  by_cases h20 : r.rules.length = 20
  · rw [rule_full t r h20] at he ⊢
    exact h.onRefuse 3 hk' he
  · obtain ⟨a1, a2, a3⟩ := rule_more t r h20
    have := h.ev; have := h.ru; have := h.us
    refine ⟨⟨he.symm.trans h.eq, rule_ok h.ok, by rw [a2]; omega, by omega, by rw [a1, a2]; omega, ?_⟩, ?_⟩
    · rcases h.fu with h1 | h1
      · exact absurd h1 hk'
      · right; rw [a1, a2]; omega
    · unfold left; rw [a1, a2, if_neg hk']; split <;> omega
theorem Fine.onElse {t : List UInt8} {r0 r : Rd} {g : Nat} (h : Fine t r0 (g + 1) r) (hk : ¬ r.now.kind = 10) (h2 : ¬ r.now.kind = 2) (h1 : ¬ r.now.kind = 1) : Fine t r0 g (Dsr.refuse t r 2) ∧ left (Dsr.refuse t r 2) < left r :=
  h.onRefuse 2 hk (by rw [lines, if_neg hk, if_neg h2, if_neg h1])
theorem Fine.start (t : List UInt8) (_hz : t.length ≤ 400) : Fine t (newRd t) 32 (newRd t) :=
  ⟨rfl, scan_ok t 0 (Nat.zero_le _), by simp [newRd], by simp [newRd], by simp [newRd], .inr (by simp [newRd])⟩
end Dsr
