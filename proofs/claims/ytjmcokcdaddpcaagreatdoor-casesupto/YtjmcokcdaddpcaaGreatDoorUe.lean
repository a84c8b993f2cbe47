import Derived.Test.YtjmcokcdaddpcaaGreatDoorUc
import Derived.Test.YtjmcokcdaddpcaaGreatDoorGrB
/- What the reader has gathered is small. -/
namespace Dsr
structure TokOk (T : Nat) (k : Tok) : Prop where
  rule : k.rule < 5
  text : k.text.length ≤ T
structure EvOk (T : Nat) (e : Ev) : Prop where
  name : e.name.length ≤ T
  some : 0 < e.roles.length
  few : e.roles.length ≤ 6
  role : ∀ x ∈ e.roles, x.length ≤ T
structure RlOk (T : Nat) (r : Rl) : Prop where
  kind : r.kind < 5
  left : r.left.length ≤ T
  right : r.right.length ≤ T
structure RdOk (T : Nat) (r : Rd) : Prop where
  now : TokOk T r.now
  ev : ∀ e ∈ r.events, EvOk T e
  ru : ∀ e ∈ r.rules, RlOk T e
theorem scan_tok (t : List UInt8) (n : Nat) (h : n ≤ t.length) : TokOk t.length (scan t n) := by
  refine ⟨?_, by have := scan_ok t n h; omega⟩
  unfold scan
  generalize n + blankLen (t.drop n) = k
  unfold scanAt
  split
  · show (0 : Nat) < 5; decide
  · split
    · show (0 : Nat) < 5; decide
    · unfold scanSign
      split
      · assumption
      · show (0 : Nat) < 5; decide
theorem end_tok (t : List UInt8) : TokOk t.length ⟨10, 0, t.length, []⟩ := ⟨by show (0 : Nat) < 5; decide, by simp⟩
theorem refuse_rd {t : List UInt8} {r : Rd} (h : RdOk t.length r) (e : Nat) : RdOk t.length (refuse t r e) := ⟨end_tok t, h.ev, h.ru⟩
theorem step_rd {t : List UInt8} {r : Rd} (h : RdOk t.length r) (ho : r.ok t) : RdOk t.length (step t r) := ⟨scan_tok t _ ho, h.ev, h.ru⟩
theorem takeIf_rd {t : List UInt8} {r : Rd} (h : RdOk t.length r) (ho : r.ok t) (k : Nat) : RdOk t.length (takeIf t r k) := by unfold takeIf; split; exact step_rd h ho; exact h
theorem take_rd {t : List UInt8} {r : Rd} (h : RdOk t.length r) (ho : r.ok t) (k : Nat) : RdOk t.length (take t r k) := by unfold take; split; exact step_rd h ho; exact refuse_rd h _
theorem nameSize_rd {t : List UInt8} {r : Rd} (h : RdOk t.length r) : RdOk t.length (nameSize t r) := by unfold nameSize; split; exact refuse_rd h _; exact h
theorem uses_rd {T : Nat} {r : Rd} (h : RdOk T r) (us : List Us) : RdOk T { r with uses := us } := ⟨h.now, h.ev, h.ru⟩
theorem uses_ok {t : List UInt8} {r : Rd} (h : r.ok t) (us : List Us) : ({ r with uses := us } : Rd).ok t := h
theorem name_rd {t : List UInt8} {r : Rd} (h : RdOk t.length r) (ho : r.ok t) (a : Nat) : RdOk t.length (name t r a) :=
  take_rd (uses_rd (nameSize_rd h) _) (uses_ok (nameSize_ok ho) _) 1
theorem rolesSize_rd {t : List UInt8} {r : Rd} (h : RdOk t.length r) (n : Nat) : RdOk t.length (rolesSize t r n) := by unfold rolesSize; split; exact refuse_rd h _; exact h
theorem rolesLoop_rd {t : List UInt8} : ∀ (f : Nat) (r : Rd) (l : List (List UInt8)), RdOk t.length r → r.ok t → 0 < l.length → (∀ x ∈ l, x.length ≤ t.length) →
    RdOk t.length (rolesLoop t f r l).1 ∧ 0 < (rolesLoop t f r l).2.length ∧ (rolesLoop t f r l).2.length ≤ l.length + f ∧ (∀ x ∈ (rolesLoop t f r l).2, x.length ≤ t.length)
  | 0, r, l, h, ho, h0, hl => ⟨h, h0, Nat.le_refl _, hl⟩
  | f + 1, r, l, h, ho, h0, hl => by
    unfold rolesLoop
    split
    · have h1 := rolesSize_rd (step_rd h ho) l.length
      have o1 : (rolesSize t (step t r) l.length).ok t := rolesSize_ok (step_ok ho) _
      obtain ⟨a, b, c, d⟩ := rolesLoop_rd f (name t (rolesSize t (step t r) l.length) 1) (l ++ [(rolesSize t (step t r) l.length).now.text]) (name_rd h1 o1 1) (name_ok o1 1) (by simp) (by
        intro x hx
        rcases List.mem_append.1 hx with hx | hx
        · exact hl x hx
        · rw [List.mem_singleton.1 hx]; exact h1.now.text)
      refine ⟨a, b, ?_, d⟩
      rw [List.length_append, List.length_singleton] at c
      omega
    · exact ⟨h, h0, by show l.length ≤ _; omega, hl⟩
theorem roles_rd {t : List UInt8} {r : Rd} (h : RdOk t.length r) (ho : r.ok t) :
    RdOk t.length (roles t r).1 ∧ 0 < (roles t r).2.length ∧ (roles t r).2.length ≤ 6 ∧ (∀ x ∈ (roles t r).2, x.length ≤ t.length) :=
  rolesLoop_rd 5 (name t r 1) [r.now.text] (name_rd h ho 1) (name_ok ho 1) (by simp) (by intro x hx; rw [List.mem_singleton.1 hx]; exact h.now.text)
theorem markRd_rd {t : List UInt8} {r : Rd} (h : RdOk t.length r) (ho : r.ok t) : RdOk t.length (markRd t r) :=
  takeIf_rd (takeIf_rd (takeIf_rd h ho 4) (takeIf_ok ho 4) 5) (takeIf_ok (takeIf_ok ho 4) 5) 6
theorem evHead_rd {t : List UInt8} {r : Rd} (h : RdOk t.length r) (ho : r.ok t) : RdOk t.length (evHead t r) :=
  take_rd (name_rd (take_rd h ho 2) (take_ok ho 2) 0) (name_ok (take_ok ho 2) 0) 3
theorem evBody_rd {t : List UInt8} {r : Rd} (h : RdOk t.length r) (ho : r.ok t) : RdOk t.length (evBody t r) :=
  take_rd (markRd_rd (roles_rd (evHead_rd h ho) (evHead_ok ho)).1 (roles_ok (evHead_ok ho))) (markRd_ok (roles_ok (evHead_ok ho))) 8
theorem evOf_ok {t : List UInt8} {r : Rd} (h : RdOk t.length r) (ho : r.ok t) : EvOk t.length (evOf t r) := by
  obtain ⟨_, b, c, d⟩ := roles_rd (evHead_rd h ho) (evHead_ok ho)
  have a := (take_rd h ho 2).now.text
  unfold evOf
  generalize roles t (evHead t r) = q at *
  generalize take t r 2 = q2 at *
  exact ⟨a, b, c, d⟩
theorem snoc_ev {T : Nat} {r : Rd} (h : RdOk T r) {e : Ev} (he : EvOk T e) : RdOk T { r with events := r.events ++ [e] } :=
  ⟨h.now, fun x hx => by
    rcases List.mem_append.1 hx with hx | hx
    · exact h.ev x hx
    · rw [List.mem_singleton.1 hx]; exact he, h.ru⟩
theorem snoc_ru {T : Nat} {r : Rd} (h : RdOk T r) {e : Rl} (he : RlOk T e) : RdOk T { r with rules := r.rules ++ [e] } :=
  ⟨h.now, h.ev, fun x hx => by
    rcases List.mem_append.1 hx with hx | hx
    · exact h.ru x hx
    · rw [List.mem_singleton.1 hx]; exact he⟩
theorem event_rd {t : List UInt8} {r : Rd} (h : RdOk t.length r) (ho : r.ok t) : RdOk t.length (event t r) := by
  unfold event; split
  · exact refuse_rd h _
  · exact snoc_ev (evBody_rd h ho) (evOf_ok h ho)
theorem ruHead_rd {t : List UInt8} {r : Rd} (h : RdOk t.length r) (ho : r.ok t) : RdOk t.length (ruHead t r) := take_rd (name_rd h ho 2) (name_ok ho 2) 9
theorem ruBody_rd {t : List UInt8} {r : Rd} (h : RdOk t.length r) (ho : r.ok t) : RdOk t.length (ruBody t r) :=
  take_rd (name_rd (ruHead_rd h ho) (ruHead_ok ho) 2) (name_ok (ruHead_ok ho) 2) 8
theorem rule_rd {t : List UInt8} {r : Rd} (h : RdOk t.length r) (ho : r.ok t) : RdOk t.length (rule t r) := by
  unfold rule; split
  · exact refuse_rd h _
  · exact snoc_ru (ruBody_rd h ho) ⟨(name_rd h ho 2).now.rule, h.now.text, (ruHead_rd h ho).now.text⟩
theorem lines_rd {t : List UInt8} : ∀ (f : Nat) (r : Rd), RdOk t.length r → r.ok t → RdOk t.length (lines t f r)
  | 0, r, h, _ => h
  | f + 1, r, h, ho => by
    unfold lines
    split
    · exact h
    · split
      · exact lines_rd f _ (event_rd h ho) (event_ok ho)
      · split
        · exact lines_rd f _ (rule_rd h ho) (rule_ok ho)
        · exact lines_rd f _ (refuse_rd h 2) (refuse_ok 2)
theorem newRd_rd (t : List UInt8) : RdOk t.length (newRd t) := ⟨scan_tok t 0 (Nat.zero_le _), fun _ h => (by simp [newRd] at h), fun _ h => (by simp [newRd] at h)⟩
theorem newRd_ok (t : List UInt8) : (newRd t).ok t := scan_ok t 0 (Nat.zero_le _)
/-- The text, read. -/
def readR (t : List UInt8) : Rd := lines t 32 (newRd t)
theorem readR_rd (t : List UInt8) : RdOk t.length (readR t) := lines_rd 32 _ (newRd_rd t) (newRd_ok t)
/-- How many there are. -/
theorem lines_fine {t : List UInt8} {r0 : Rd} : ∀ (f : Nat) (r : Rd), Fine t r0 f r → (lines t f r).events.length ≤ 10 ∧ (lines t f r).rules.length ≤ 20 ∧ (lines t f r).uses.length ≤ 110
  | 0, r, h => by
    have := h.ev; have := h.ru; have := h.us
    exact ⟨h.ev, h.ru, by show r.uses.length ≤ 110; omega⟩
  | f + 1, r, h => by
    by_cases h10 : r.now.kind = 10
    · rw [lines_end _ _ _ h10]
      have := h.ev; have := h.ru; have := h.us
      exact ⟨h.ev, h.ru, by omega⟩
    · by_cases h2 : r.now.kind = 2
      · have e : lines t (f + 1) r = lines t f (event t r) := by rw [lines, if_neg h10, if_pos h2]
        rw [e]; exact lines_fine f _ (h.onEvent h2).1
      · by_cases h1 : r.now.kind = 1
        · have e : lines t (f + 1) r = lines t f (rule t r) := by rw [lines, if_neg h10, if_neg h2, if_pos h1]
          rw [e]; exact lines_fine f _ (h.onRule h1).1
        · have e : lines t (f + 1) r = lines t f (refuse t r 2) := by rw [lines, if_neg h10, if_neg h2, if_neg h1]
          rw [e]; exact lines_fine f _ (h.onElse h10 h2 h1).1
theorem readR_few (t : List UInt8) (ht : t.length ≤ 400) : (readR t).events.length ≤ 10 ∧ (readR t).rules.length ≤ 20 ∧ (readR t).uses.length ≤ 110 := lines_fine 32 _ (Fine.start t ht)
theorem join_len (l : List (List UInt8)) (T : Nat) (h : ∀ x ∈ l, x.length ≤ T) : (joinC l).length ≤ l.length * (T + 2) := by
  unfold joinC
  induction l with
  | nil => simp [List.intercalate]
  | cons a l ih =>
    have ha := h a (by simp)
    have ih' := ih (fun x hx => h x (by simp [hx]))
    rcases l with _ | ⟨b, l⟩
    · simp [List.intercalate]; omega
    · have e : ([44, 32] : List UInt8).intercalate (a :: b :: l) = a ++ ([44, 32] ++ ([44, 32] : List UInt8).intercalate (b :: l)) := by
        simp [List.intercalate]
      rw [e]
      simp only [List.length_append, List.length_cons, List.length_nil] at ih' ⊢
      rw [Nat.succ_mul]
      omega
end Dsr
/- The reader over a list of tokens: no program in it. -/
namespace Dsr
/-- The token behind the last one. -/
abbrev endT (n : Nat) : Tok := ⟨10, 0, n, []⟩
/-- These are the tokens of a text from a place on. -/
def Lst (t : List UInt8) : Nat → List Tok → Prop
  | n, [] => scan t n = endT t.length
  | n, k :: ts => scan t n = k ∧ Lst t (k.at_ + k.text.length) ts
abbrev QR := Rd × List Tok
def stepL (E : Tok) (q : QR) : QR := ({ q.1 with now := q.2.headD E }, q.2.tail)
def refuseL (E : Tok) (q : QR) (e : Nat) : QR := ({ q.1 with fErr := if q.1.fErr = 0 then e else q.1.fErr, fAt := if q.1.fErr = 0 then q.1.now.at_ else q.1.fAt, now := E }, [])
def takeIfL (E : Tok) (q : QR) (k : Nat) : QR := if q.1.now.kind = k then stepL E q else q
def takeL (E : Tok) (q : QR) (k : Nat) : QR := if q.1.now.kind = k then stepL E q else refuseL E q 2
def nameSizeL (E : Tok) (q : QR) : QR := if bigName q.1 = true then refuseL E q 3 else q
def useL (q : QR) (us : List Us) : QR := ({ q.1 with uses := us }, q.2)
def nameL (E : Tok) (q : QR) (a : Nat) : QR := takeL E (useL (nameSizeL E q) (q.1.uses ++ [⟨a, q.1.events.length, q.1.now.text, q.1.now.at_⟩])) 1
def rolesSizeL (E : Tok) (q : QR) (n : Nat) : QR := if bigRoles q.1 n = true then refuseL E q 3 else q
def rolesLoopL (E : Tok) : Nat → QR → List (List UInt8) → QR × List (List UInt8)
  | 0, q, l => (q, l)
  | f + 1, q, l =>
    if q.1.now.kind = 7 then
      rolesLoopL E f (nameL E (rolesSizeL E (stepL E q) l.length) 1) (l ++ [(rolesSizeL E (stepL E q) l.length).1.now.text])
    else (q, l)
def rolesL (E : Tok) (q : QR) : QR × List (List UInt8) := rolesLoopL E 5 (nameL E q 1) [q.1.now.text]
def markL (E : Tok) (q : QR) : QR := takeIfL E (takeIfL E (takeIfL E q 4) 5) 6
def evHeadL (E : Tok) (q : QR) : QR := takeL E (nameL E (takeL E q 2) 0) 3
def evBodyL (E : Tok) (q : QR) : QR := takeL E (markL E (rolesL E (evHeadL E q)).1) 8
def evOfL (E : Tok) (q : QR) : Ev :=
  ⟨(takeL E q 2).1.now.text, (rolesL E (evHeadL E q)).2, decide ((takeIfL E (takeIfL E (rolesL E (evHeadL E q)).1 4) 5).1.now.kind = 6), !decide ((rolesL E (evHeadL E q)).1.1.now.kind = 4), decide ((takeIfL E (rolesL E (evHeadL E q)).1 4).1.now.kind = 5)⟩
def eventL (E : Tok) (q : QR) : QR :=
  if q.1.events.length = 10 then refuseL E q 3 else ({ (evBodyL E q).1 with events := (evBodyL E q).1.events ++ [evOfL E q] }, (evBodyL E q).2)
def ruHeadL (E : Tok) (q : QR) : QR := takeL E (nameL E q 2) 9
def ruBodyL (E : Tok) (q : QR) : QR := takeL E (nameL E (ruHeadL E q) 2) 8
def ruOfL (E : Tok) (q : QR) : Rl := ⟨q.1.now.text, (ruHeadL E q).1.now.text, (nameL E q 2).1.now.rule⟩
def ruleL (E : Tok) (q : QR) : QR :=
  if q.1.rules.length = 20 then refuseL E q 3 else ({ (ruBodyL E q).1 with rules := (ruBodyL E q).1.rules ++ [ruOfL E q] }, (ruBodyL E q).2)
def linesL (E : Tok) : Nat → QR → QR
  | 0, q => q
  | f + 1, q => if q.1.now.kind = 10 then q else if q.1.now.kind = 2 then linesL E f (eventL E q) else if q.1.now.kind = 1 then linesL E f (ruleL E q) else linesL E f (refuseL E q 2)
def newL (E : Tok) (ts : List Tok) : QR := (⟨ts.headD E, [], [], [], 0, 0⟩, ts.tail)
def readL (E : Tok) (ts : List Tok) : Rd := (linesL E 32 (newL E ts)).1
/-- The list-reader stands where the reader does. -/
def At (t : List UInt8) (q : QR) (r : Rd) : Prop := q.1 = r ∧ Lst t (r.now.at_ + r.now.text.length) q.2
section
variable {t : List UInt8} {q : QR} {r : Rd}
theorem lst_end (t : List UInt8) : Lst t t.length [] := by
  show scan t t.length = _
  unfold scan
  rw [blankLen_end (Nat.le_refl _), Nat.add_zero, List.drop_eq_nil_of_le (Nat.le_refl _)]
  rfl
theorem At.step (h : At t q r) : At t (stepL (endT t.length) q) (step t r) := by
  obtain ⟨rfl, h⟩ := h
  obtain ⟨r, ts⟩ := q
  rcases ts with _ | ⟨k, ts⟩
  · refine ⟨?_, ?_⟩
    · show ({ r with now := endT t.length } : Rd) = { r with now := _ }
      rw [show scan t (r.now.at_ + r.now.text.length) = endT t.length from h]
    · show Lst t ((scan t (r.now.at_ + r.now.text.length)).at_ + (scan t (r.now.at_ + r.now.text.length)).text.length) []
      rw [show scan t (r.now.at_ + r.now.text.length) = endT t.length from h]
      exact lst_end t
  · obtain ⟨h1, h2⟩ := h
    refine ⟨?_, ?_⟩
    · show ({ r with now := k } : Rd) = { r with now := _ }
      rw [h1]
    · show Lst t ((scan t (r.now.at_ + r.now.text.length)).at_ + (scan t (r.now.at_ + r.now.text.length)).text.length) ts
      rw [h1]
      exact h2
theorem At.refuse (h : At t q r) (e : Nat) : At t (refuseL (endT t.length) q e) (refuse t r e) := by
  obtain ⟨rfl, h⟩ := h
  exact ⟨rfl, lst_end t⟩
theorem At.takeIf (h : At t q r) (k : Nat) : At t (takeIfL (endT t.length) q k) (takeIf t r k) := by
  have e := h.1
  unfold Dsr.takeIf takeIfL
  rw [e]
  split
  · exact h.step
  · exact h
theorem At.take (h : At t q r) (k : Nat) : At t (takeL (endT t.length) q k) (take t r k) := by
  have e := h.1
  unfold Dsr.take takeL
  rw [e]
  split
  · exact h.step
  · exact h.refuse 2
theorem At.nameSize (h : At t q r) : At t (nameSizeL (endT t.length) q) (nameSize t r) := by
  have e := h.1
  unfold Dsr.nameSize nameSizeL
  rw [e]
  split
  · exact h.refuse 3
  · exact h
theorem At.use (h : At t q r) (us : List Us) : At t (useL q us) { r with uses := us } := by
  obtain ⟨rfl, h⟩ := h
  exact ⟨rfl, h⟩
theorem At.name (h : At t q r) (a : Nat) : At t (nameL (endT t.length) q a) (name t r a) := by
  have e := h.1
  unfold Dsr.name nameL
  rw [e]
  exact (h.nameSize.use _).take 1
theorem At.rolesSize (h : At t q r) (n : Nat) : At t (rolesSizeL (endT t.length) q n) (rolesSize t r n) := by
  have e := h.1
  unfold Dsr.rolesSize rolesSizeL
  rw [e]
  split
  · exact h.refuse 3
  · exact h
end
theorem At.rolesLoop {t : List UInt8} : ∀ (f : Nat) {q : QR} {r : Rd} (l : List (List UInt8)), At t q r → At t (rolesLoopL (endT t.length) f q l).1 (rolesLoop t f r l).1 ∧ (rolesLoopL (endT t.length) f q l).2 = (rolesLoop t f r l).2
  | 0, q, r, l, h => ⟨h, rfl⟩
  | f + 1, q, r, l, h => by
    unfold Dsr.rolesLoop rolesLoopL
    rw [h.1]
    split
    · have h2 := h.step.rolesSize l.length
      have e := h2.1
      rw [e]
      exact At.rolesLoop f _ (h2.name 1)
    · exact ⟨h, rfl⟩
section
variable {t : List UInt8} {q : QR} {r : Rd}
theorem At.roles (h : At t q r) : At t (rolesL (endT t.length) q).1 (roles t r).1 ∧ (rolesL (endT t.length) q).2 = (roles t r).2 := by
  unfold Dsr.roles rolesL
  rw [h.1]
  exact At.rolesLoop 5 _ (h.name 1)
theorem At.mark (h : At t q r) : At t (markL (endT t.length) q) (markRd t r) := ((h.takeIf 4).takeIf 5).takeIf 6
theorem At.evHead (h : At t q r) : At t (evHeadL (endT t.length) q) (evHead t r) := ((h.take 2).name 0).take 3
theorem At.evBody (h : At t q r) : At t (evBodyL (endT t.length) q) (evBody t r) := h.evHead.roles.1.mark.take 8
theorem At.evOf (h : At t q r) : evOfL (endT t.length) q = evOf t r := by
  have h1 := h.evHead.roles
  unfold evOfL Dsr.evOf markDone markIn markDue
  rw [(h.take 2).1, h1.2, ((h1.1.takeIf 4).takeIf 5).1, (h1.1.takeIf 4).1, h1.1.1]
theorem At.event (h : At t q r) : At t (eventL (endT t.length) q) (event t r) := by
  unfold Dsr.event eventL
  rw [h.1]
  split
  · exact h.refuse 3
  · have hb := h.evBody
    rw [h.evOf]
    generalize evBodyL (endT t.length) q = x at *
    generalize Dsr.evBody t r = y at *
    obtain ⟨rfl, hb⟩ := hb
    exact ⟨rfl, hb⟩
theorem At.ruHead (h : At t q r) : At t (ruHeadL (endT t.length) q) (ruHead t r) := (h.name 2).take 9
theorem At.ruBody (h : At t q r) : At t (ruBodyL (endT t.length) q) (ruBody t r) := (h.ruHead.name 2).take 8
theorem At.ruOf (h : At t q r) : ruOfL (endT t.length) q = ruOf t r := by
  unfold ruOfL Dsr.ruOf
  rw [h.1, h.ruHead.1, (h.name 2).1]
theorem At.rule (h : At t q r) : At t (ruleL (endT t.length) q) (rule t r) := by
  unfold Dsr.rule ruleL
  rw [h.1]
  split
  · exact h.refuse 3
  · have hb := h.ruBody
    rw [h.ruOf]
    generalize ruBodyL (endT t.length) q = x at *
    generalize Dsr.ruBody t r = y at *
    obtain ⟨rfl, hb⟩ := hb
    exact ⟨rfl, hb⟩
end
theorem At.lines {t : List UInt8} : ∀ (f : Nat) {q : QR} {r : Rd}, At t q r → At t (linesL (endT t.length) f q) (lines t f r)
  | 0, _, _, h => h
  | f + 1, q, r, h => by
    unfold Dsr.lines linesL
    rw [h.1]
    split
    · exact h
    · split
      · exact At.lines f h.event
      · split
        · exact At.lines f h.rule
        · exact At.lines f (h.refuse 2)
/-- The reader of a text is the reader of its tokens. -/
theorem readR_eq {t : List UInt8} {ts : List Tok} (h : Lst t 0 ts) : readR t = readL (endT t.length) ts := by
  have h0 : At t (newL (endT t.length) ts) (newRd t) := by
    rcases ts with _ | ⟨k, ts⟩
    · have h : scan t 0 = endT t.length := h
      refine ⟨?_, ?_⟩
      · unfold newL newRd; rw [h]; rfl
      · unfold newRd; rw [h]; exact lst_end t
    · obtain ⟨h1, h2⟩ := h
      refine ⟨?_, ?_⟩
      · unfold newL newRd; rw [h1]; rfl
      · unfold newRd; rw [h1]; exact h2
  exact (At.lines 32 h0).1.symm
end Dsr
set_option linter.unusedVariables false
set_option linter.unusedSimpArgs false
namespace Go.Proofs.YtjmcokcdaddpcaaGreatDoor
open Go.RowKit
def tkC (k : Dsr.Tok) : List Value := [strV k.text, .int .i64 k.at_, .bool (isW k), .int .i64 (sgn k)]
theorem one_tk (k : Dsr.Tok) : ∀ x ∈ tkC k, x.oneCell' = true := by intro x hx; simp [tkC] at hx; rcases hx with rfl | rfl | rfl | rfl <;> rfl
theorem Tryz.infoTok : (Tryz.prog.info? 223).map (fun i => (i.zero, i.size, i.bytes)) = some (some (.agg #[.string ⟨#[]⟩, .int .i64 0, .bool false, .int .i64 0]), 4, 40) := by kernel_rfl
theorem news_l {w : World} {cs : Array Value} {T : TypeId} {N : Nat} (hN : N = w.heap.size) : ∀ j u, cs.toList[j]? = some u → (w.alloc (.cells cs T)).cell? ((⟨N, 0, none⟩ : Addr).add j) = some u := by
  subst hN
  exact World.news_of_block (heap_alloc_new w _)
theorem tok_cell {B n m : Nat} {w1 w5 : World} {a b c d : Value} {T T' : TypeId} {o2 : Obj} {v : Value} {xs : List Value} (hown : w1.ownsRow B T' m v n xs) (hg : ((w1.alloc (.cells #[a, b, c, d] T)).alloc o2).grownBy w5 v.ownBlock) : w5.cell? ⟨w1.heap.size, 0, none⟩ = some a := by
  have hlt : w1.heap.size < ((w1.alloc (.cells #[a, b, c, d] T)).alloc o2).heap.size := by simp; omega
  rw [hg.cell_far ⟨w1.heap.size, 0, none⟩ hlt (fun e => absurd (hown.lt _ e.symm).2 (Nat.lt_irrefl _))]
  have : ((w1.alloc (.cells #[a, b, c, d] T)).alloc o2).heap[w1.heap.size]? = some (.cells #[a, b, c, d] T (0, 0)) := (Below.heap_alloc _ _ _ (by simp)).trans (heap_alloc_new _ _)
  simp [World.cell?, this]
/-- The tokens ahead of a place are these. -/
def LstTo (t : List UInt8) (k : Nat) (ts : List Dsr.Tok) : Prop := ∀ rest, Dsr.Lst t k rest → Dsr.Lst t 0 (ts ++ rest)
theorem lst_from {t : List UInt8} {k m : Nat} (h : Dsr.scan t k = Dsr.scan t m) : ∀ rest, Dsr.Lst t m rest → Dsr.Lst t k rest
  | [], hr => by show Dsr.scan t k = _; rw [h]; exact hr
  | x :: rest, hr => ⟨h.trans hr.1, hr.2⟩
theorem lstTo_blank {t : List UInt8} {k : Nat} {c : UInt8} {ts : List Dsr.Tok} (h : LstTo t k ts) (hc : t[k]? = some c) (hb : Dsr.blank c = true) : LstTo t (k + 1) ts := by
  intro rest hr
  refine h rest (lst_from ?_ rest hr)
  unfold Dsr.scan
  rw [Dsr.blankLen_step hc, if_pos hb]
  have : k + (Dsr.blankLen (t.drop (k + 1)) + 1) = k + 1 + Dsr.blankLen (t.drop (k + 1)) := by omega
  rw [this]
theorem scan_here {t : List UInt8} {k : Nat} {c : UInt8} (hc : t[k]? = some c) (hb : Dsr.blank c = false) : Dsr.scan t k = Dsr.scanAt (t.drop k) k := by
  unfold Dsr.scan
  rw [Dsr.blankLen_step hc, if_neg (by rw [hb]; decide), Nat.add_zero]
theorem scanAt_at (l : List UInt8) (k : Nat) : (Dsr.scanAt l k).at_ = k := by
  unfold Dsr.scanAt
  split
  · rfl
  · split
    · rfl
    · unfold Dsr.scanSign
      split <;> rfl
theorem lstTo_tok {t : List UInt8} {k : Nat} {c : UInt8} {ts : List Dsr.Tok} (h : LstTo t k ts) (hc : t[k]? = some c) (hb : Dsr.blank c = false) : LstTo t (k + (Dsr.scanAt (t.drop k) k).text.length) (ts ++ [Dsr.scanAt (t.drop k) k]) := by
  intro rest hr
  rw [List.append_assoc]
  refine h _ ⟨scan_here hc hb, ?_⟩
  rw [scanAt_at]
  exact hr
theorem tok_some {s : ByteArray} {k : Nat} (h : k < s.size) : 0 < (Dsr.scanAt (s.data.toList.drop k) k).text.length ∧ k + (Dsr.scanAt (s.data.toList.drop k) k).text.length ≤ s.size := by
  have hd : s.data.toList.drop k = s[k] :: s.data.toList.drop (k + 1) := by
    rw [List.drop_eq_getElem_cons (by simpa using h)]
    rfl
  have hlen : (s.data.toList.drop k).length = s.size - k := by simp
  constructor
  · rw [hd]
    show 0 < (if Dsr.letter s[k] = true then Dsr.scanWord _ k else Dsr.scanSign _ k).text.length
    split
    · rename_i hl
      unfold Dsr.scanWord
      simp only [List.length_take]
      have : 0 < Dsr.wordLen (s[k] :: s.data.toList.drop (k + 1)) := by
        unfold Dsr.wordLen
        rw [if_pos (by simp [Dsr.wordy, hl])]
        omega
      simp; omega
    · unfold Dsr.scanSign
      split
      · rename_i h5
        generalize Dsr.signOf _ = m at *
        rcases m with _ | _ | _ | _ | _ | m
        · simp [Dsr.signs]
        · simp [Dsr.signs]
        · simp [Dsr.signs]
        · simp [Dsr.signs]
        · simp [Dsr.signs]
        · omega
      · simp
  · by_cases hb : Dsr.blank s[k] = true
    · rw [hd]
      show k + (if Dsr.letter s[k] = true then Dsr.scanWord _ k else Dsr.scanSign _ k).text.length ≤ _
      have hnl : Dsr.letter s[k] = false := by
        unfold Dsr.blank at hb; unfold Dsr.letter
        simp at hb ⊢; omega
      rw [if_neg (by rw [hnl]; decide)]
      have h5 : ¬ Dsr.signOf (s[k] :: s.data.toList.drop (k + 1)) < 5 := by
        intro h5
        have hp : (Dsr.signs.getD (Dsr.signOf (s[k] :: s.data.toList.drop (k + 1))) []).isPrefixOf (s[k] :: s.data.toList.drop (k + 1)) = true := by
          rcases hb2 : (Dsr.signs.getD (Dsr.signOf (s[k] :: s.data.toList.drop (k + 1))) []).isPrefixOf (s[k] :: s.data.toList.drop (k + 1)) with _ | _
          · have := Dsr.signOf_next _ _ (Nat.le_refl _) h5 hb2; omega
          · rfl
        have hne : ∀ m, m < 5 → (Dsr.signs.getD m []).isPrefixOf (s[k] :: s.data.toList.drop (k + 1)) = true → s[k] = 45 ∨ s[k] = 42 := by
          intro m hm hp
          rcases m with _ | _ | _ | _ | _ | m
          all_goals first
            | omega
            | (simp [Dsr.signs, List.isPrefixOf] at hp; first | exact .inl hp.1.symm | exact .inr hp.1.symm)
        rcases hne _ h5 hp with e | e <;> rw [e] at hb <;> exact absurd hb (by decide)
      unfold Dsr.scanSign
      rw [if_neg h5]
      simp
      omega
    · have hc : s.data.toList[k]? = some s[k] := byte_some s k h
      have := Dsr.scan_ok s.data.toList k (by simp; omega)
      rw [scan_here hc (by simpa using hb), scanAt_at] at this
      simpa using this
theorem rtoken_any (s : ByteArray) (n : Nat) (w : World) (hs : s.size ≤ 400) (hn : n < s.size) :
    Calls Tryz.prog 161 #[.string s, .int .i64 n] w fun e w' => e = .returned (tkV (Dsr.scanAt (s.data.toList.drop n) n)) ∧ Below w.heap.size w w' := by
  have hd : s.data.toList.drop n = s[n] :: s.data.toList.drop (n + 1) := by
    rw [List.drop_eq_getElem_cons (by simpa using hn)]
    rfl
  have e : Dsr.scanAt (s.data.toList.drop n) n = if Dsr.letter s[n] = true then Dsr.scanWord (s.data.toList.drop n) n else Dsr.scanSign (s.data.toList.drop n) n := by
    rw [hd]; rfl
  rw [e]
  rcases hl : Dsr.letter s[n] with _ | _
  · rw [if_neg (by decide)]
    exact rtoken_sign s n w hs hn hl
  · rw [if_pos rfl]
    exact rtoken_word s n w hs hn hl
set_option maxRecDepth 100000 in
set_option maxHeartbeats 1600000 in
theorem rTokens_any (s : ByteArray) (w : World) (hs : s.size ≤ 400) :
    Calls Tryz.prog 112 #[.string s] w fun e w' => ∃ v ts, e = .returned v ∧ Dsr.Lst s.data.toList 0 ts ∧ ts.length ≤ 400 ∧ w'.ownsRow w.heap.size 223 4 v (ts.length + 1) ((ts ++ [Dsr.endT s.size]).flatMap tkC) ∧ Below w.heap.size w w' := by
  have hsI : (s.size : Int) ≤ 400 := by omega
  go_enter Tryz.func112, Tryz.ntmps112
  go_wp2_with fail
  go_loopg [3, 4] s.size (fun g v i wr => ∃ (k : Nat) (ts : List Dsr.Tok), i = .int .i64 k ∧ k + g = s.size ∧ ts.length ≤ k ∧ LstTo s.data.toList k ts ∧ wr.ownsRow w.heap.size 223 4 v ts.length (ts.flatMap tkC) ∧ Below w.heap.size w wr)
  case atStart => exact ⟨0, [], rfl, by omega, Nat.le_refl _, fun rest hr => hr, World.ownsRow_nil _ _ _ _, Below.refl _ _⟩
  case round =>
    obtain ⟨k, ts, rfl, hk, htl, hto, hown, hb⟩ := hrel
    obtain ⟨av, cv, rfl⟩ := owned_shape hown
    have H : Hid (LstTo s.data.toList k ts ∧ wr.ownsRow w.heap.size 223 4 (.slice av ts.length cv) ts.length (ts.flatMap tkC) ∧ Below w.heap.size w wr) := ⟨hto, hown, hb⟩
    have hwr : w.heap.size ≤ wr.heap.size := hb.size
    clear hto hown hb
    obtain ⟨i0, hi, hz0, hz1, hz2⟩ := info_parts Tryz.infoTok
    by_cases hlt : k < s.size
    · have HC : Hid (s.data.toList[k]? = some s[k]) := byte_some s k hlt
      rcases hbl : Dsr.blank s[k] with _ | _
      · have HBL : Hid (Dsr.blank s[k] = false) := hbl
        have b1 : ((s[k].toNat : Int) == 32) = false := by unfold Dsr.blank at hbl; simp at hbl ⊢; omega
        have b2 : ((s[k].toNat : Int) == 9) = false := by unfold Dsr.blank at hbl; simp at hbl ⊢; omega
        have b3 : ((s[k].toNat : Int) == 10) = false := by unfold Dsr.blank at hbl; simp at hbl ⊢; omega
        clear hbl
        go_wp2_with fail
        refine (rtoken_any s k _ hs hlt).mono ?_
        rintro e w1 ⟨rfl, hb1⟩
        have hts := tok_some hlt
        have HT := lstTo_tok H.out.1 HC.out HBL.out
        have H1 : Hid (Below w.heap.size w w1 ∧ w1.ownsRow w.heap.size 223 4 (.slice av ts.length cv) ts.length (ts.flatMap tkC) ∧ LstTo s.data.toList (k + (Dsr.scanAt (s.data.toList.drop k) k).text.length) (ts ++ [Dsr.scanAt (s.data.toList.drop k) k])) := ⟨H.out.2.2.trans (hb1.mono hwr), ownsRow_of_block H.out.2.1 (fun k hk _ => hb1.block k hk), HT⟩
        have hw1 : w.heap.size ≤ w1.heap.size := H1.out.1.size
        clear hb1 HT
        generalize Dsr.scanAt (s.data.toList.drop k) k = tk at *
        go_wp2_with (at_builtin; refine wpList_append_lies _ rfl (.tmp 31) (.tmp 33) 212 rfl w.heap.size 223 i0 _ 4 40 Tryz.underlying212 hi hz0 hz1 hz2 rfl (by decide) (.slice av ts.length cv) ts.length _ (by simp [Act.eval, Act.put]) ((H1.out.2.1.alloc _).alloc _) ⟨w1.heap.size + 1, 0, none⟩ 1 1 (tkC tk) (by simp [Act.eval, Act.put]) rfl (by exact news_l (by simp)) (one_tk tk) (by decide) (by unfold maxLen; omega) (by omega) (by simp; omega) _ rfl ?_; intro g' cap w5 hown hgrow hat hlt5; have hcl := tok_cell H1.out.2.1 hgrow)
        have b5 : Below w.heap.size w w5 := ((H1.out.1.alloc hw1 _).alloc (by simp; omega) _).grown hgrow (by simp; omega) (fun k hk => (H1.out.2.1.lt k hk).1)
        go_roundg (s.size - (k + tk.text.length))
        case measure => omega
        case rel => exact ⟨k + tk.text.length, ts ++ [tk], by go_num, by omega, by simp; omega, H1.out.2.2, by simpa using hown, b5⟩
      · have HBL : Hid (Dsr.blank s[k] = true) := hbl
        have hcs : (s[k].toNat : Int) = 32 ∨ (s[k].toNat : Int) = 9 ∨ (s[k].toNat : Int) = 10 := by unfold Dsr.blank at hbl; simp at hbl; omega
        clear hbl
        rcases hcs with h1 | h1 | h1
        all_goals
          go_wp2_with fail
          go_roundg (s.size - (k + 1))
          case measure => omega
          case rel => exact ⟨k + 1, ts, by go_num, by omega, by omega, lstTo_blank H.out.1 HC.out HBL.out, H.out.2.1, H.out.2.2⟩
    · have hks : k = s.size := by omega
      subst hks
      clear hlt
      have HL : Hid (Dsr.Lst s.data.toList 0 ts) := by
        show Dsr.Lst _ _ _
        have := H.out.1 [] (by have := Dsr.lst_end s.data.toList; simpa using this)
        simpa using this
      go_wp2_with (at_builtin; refine wpList_append_lies _ rfl (.tmp 40) (.tmp 44) 212 rfl w.heap.size 223 i0 _ 4 40 Tryz.underlying212 hi hz0 hz1 hz2 rfl (by decide) (.slice av ts.length cv) ts.length _ (by simp [Act.eval, Act.put]) (H.out.2.1.alloc _) ⟨wr.heap.size, 0, none⟩ 1 1 (tkC (Dsr.endT s.size)) (by simp [Act.eval, Act.put]) rfl (by exact news_l (by simp)) (one_tk _) (by decide) (by unfold maxLen; omega) (by omega) (by simp; omega) _ rfl ?_; intro g' cap w5 hown hgrow hat hlt5)
      have b5 : Below w.heap.size w w5 := (H.out.2.2.alloc hwr _).grown hgrow (by simp; omega) (fun k hk => (H.out.2.1.lt k hk).1)
      go_ret
      exact ⟨_, ts, rfl, HL.out, by omega, by simpa using hown, b5⟩
end Go.Proofs.YtjmcokcdaddpcaaGreatDoor
set_option linter.unusedVariables false
set_option linter.unusedSimpArgs false
namespace Go.Proofs.YtjmcokcdaddpcaaGreatDoor
open Go.RowKit
/-! The reference's look, as a function. -/
structure RR where
  sign : Nat
  left : List UInt8
  right : List UInt8
structure RU where
  tk : Dsr.Tok
  what : Nat
  line : Nat
structure LK where
  want : Nat
  lines : Nat
  roles : Nat
  e : Nat
  events : List Dsr.Ev
  rules : List RR
  uses : List RU
  event : Nat
  rule : Nat
def isName (k : Dsr.Tok) : Bool := isW k && (Dsr.wordKind k.text == 1)
def badSize (k : Dsr.Tok) (room : Bool) : Bool := !room || decide (8 < k.text.length)
def namedP (l : LK) (k : Dsr.Tok) (room : Bool) (what want : Nat) : LK :=
  if isName k = false then { l with e := 2 } else if badSize k room = true then { l with e := 3 } else { l with uses := l.uses ++ [⟨k, what, l.lines⟩], want := want }
def isEvent (k : Dsr.Tok) : Bool := isW k && (k.text == [101, 118, 101, 110, 116])
def beginP (l : LK) (k : Dsr.Tok) : LK :=
  if isEvent k = true then { l with lines := l.lines + 1, event := l.event + 1, want := 1, e := if 10 < l.event + 1 then 3 else l.e }
  else { namedP { l with lines := l.lines + 1, rule := l.rule + 1 } k (decide (l.rule + 1 ≤ 20)) 3 8 with rules := l.rules ++ [⟨0, k.text, []⟩] }
def modLast {α : Type} (f : α → α) (l : List α) : List α := l.modify (l.length - 1) f
def markP (l : LK) (k : Dsr.Tok) : LK :=
  if k.text = [44] ∧ l.want = 4 then { l with want := 3 }
  else if k.text = [111, 117, 116] ∧ l.want = 4 then { l with want := 5, events := modLast (fun x => { x with inn := false }) l.events }
  else if k.text = [100, 117, 101] ∧ l.want ≤ 5 then { l with want := 6, events := modLast (fun x => { x with due := true }) l.events }
  else if k.text = [100, 111, 110, 101] ∧ l.want ≤ 6 then { l with want := 7, events := modLast (fun x => { x with done := true }) l.events }
  else if k.text = [59] then { l with want := 0 } else { l with e := 2 }
def nextP (l : LK) (k : Dsr.Tok) : LK :=
  if l.want = 0 then beginP l k
  else if l.want = 1 then { namedP l k true 1 2 with events := l.events ++ [⟨k.text, [], false, true, false⟩] }
  else if l.want = 2 then { l with want := 3, roles := 0, e := if isW k = true ∧ k.text = [98, 121] then l.e else 2 }
  else if l.want = 3 then { namedP { l with roles := l.roles + 1 } k (decide (l.roles + 1 ≤ 4)) 2 4 with events := modLast (fun x => { x with roles := x.roles ++ [k.text] }) l.events }
  else if l.want = 8 then { l with want := 9, rules := modLast (fun x => { x with sign := sgn k }) l.rules, e := if sgn k = 0 then 2 else l.e }
  else if l.want = 9 then { namedP l k true 3 7 with rules := modLast (fun x => { x with right := k.text }) l.rules }
  else if l.want = 7 then { l with want := 0, e := if k.text = [59] then l.e else 2 }
  else markP l k
/-! The look in memory. -/
structure LS where
  ve : Value
  vr : Value
  vu : Value
  rv : List Value
def rrC (r : RR) : List Value := [.int .i64 r.sign, strV r.left, strV r.right]
def ruC (u : RU) : List Value := tkC u.tk ++ [.int .i64 u.what, .int .i64 u.line]
abbrev lkCells (l : LK) (s : LS) : Array Value := #[.int .i64 l.want, .int .i64 l.lines, .int .i64 l.roles, .int .i64 l.e, s.ve, s.vr, s.vu, .int .i64 l.event, .int .i64 l.rule]
def roleRows (es : List Dsr.Ev) (rv : List Value) : List Row := List.zipWith (fun e v => ⟨v, 9, 1, e.roles.length, e.roles.map strV⟩) es rv
def lkRows (l : LK) (s : LS) : List Row :=
  ⟨s.ve, 226, 5, l.events.length, evCells l.events s.rv⟩ :: ⟨s.vr, 269, 3, l.rules.length, l.rules.flatMap rrC⟩ :: ⟨s.vu, 271, 6, l.uses.length, l.uses.flatMap ruC⟩ :: roleRows l.events s.rv
structure LkAt (B b : Nat) (w : World) (l : LK) (s : LS) : Prop where
  blk : w.heap[b]? = some (.cells (lkCells l s) 221 (0, 0))
  rows : RowsOk B w [b] (lkRows l s)
  len : s.rv.length = l.events.length
abbrev LMine (b : Nat) (l : LK) (s : LS) : Nat → Prop := Owns [b] (lkRows l s)
/-- The look has gone on. -/
structure LNext (B b : Nat) (w : World) (l : LK) (s : LS) (w' : World) (l' : LK) (s' : LS) : Prop where
  lk : LkAt B b w' l' s'
  kp : Kp (LMine b l s) w w'
  mine : ∀ k, LMine b l' s' k → LMine b l s k ∨ w.heap.size ≤ k
section
variable {B b : Nat} {w w' w2 : World} {l l' l2 : LK} {s s' s2 : LS}
theorem LkAt.lt (h : LkAt B b w l s) : b < w.heap.size := (h.rows.low b (by simp)).2
theorem LkAt.low (h : LkAt B b w l s) : B ≤ b := (h.rows.low b (by simp)).1
theorem LNext.refl (h : LkAt B b w l s) : LNext B b w l s w l s := ⟨h, Kp.refl _ _, fun _ h => .inl h⟩
theorem LNext.trans (h : LNext B b w l s w' l' s') (h' : LNext B b w' l' s' w2 l2 s2) : LNext B b w l s w2 l2 s2 :=
  ⟨h'.lk, h.kp.trans h'.kp h.mine, fun k hk => by
    rcases h'.mine k hk with h1 | h1
    · exact h.mine k h1
    · right; have := h.kp.size; omega⟩
/-- A cell of the look's own block is written; its lists stay. -/
theorem LkAt.put (h : LkAt B b w l s) (o : Nat) (v : Value) (hc : (lkCells l s).setIfInBounds o v = lkCells l' s) (he : l'.events = l.events) (hr : l'.rules = l.rules) (hu : l'.uses = l.uses) :
    LNext B b w l s (w.setCell ⟨b, o, none⟩ v) l' s := by
  have e : lkRows l' s = lkRows l s := by unfold lkRows; rw [he, hr, hu]
  refine ⟨⟨?_, by rw [e]; exact h.rows.put (by simp) o v, by rw [he]; exact h.len⟩, (Kp.refl _ _).setCell (.inl (.inl (by simp))) _, fun k hk => .inl (by unfold LMine at hk; rw [e] at hk; exact hk)⟩
  rw [blk_set h.blk, hc]
theorem LNext.put (h : LNext B b w l s w' l' s') (o : Nat) (v : Value) (hc : (lkCells l' s').setIfInBounds o v = lkCells l2 s') (he : l2.events = l'.events) (hr : l2.rules = l'.rules) (hu : l2.uses = l'.uses) :
    LNext B b w l s (w'.setCell ⟨b, o, none⟩ v) l2 s' := h.trans (h.lk.put o v hc he hr hu)
/-- Memory that is made aside, draws. -/
theorem LNext.aside (h : LNext B b w l s w' l' s') (hb : Below w'.heap.size w' w2) : LNext B b w l s w2 l' s' :=
  h.trans ⟨⟨by rw [hb.block b h.lk.lt]; exact h.lk.blk, h.lk.rows.same hb.size (fun k hk _ => hb.block k hk), h.lk.len⟩, (Kp.refl _ _).ofBelow hb, fun _ h => .inl h⟩
end
end Go.Proofs.YtjmcokcdaddpcaaGreatDoor
set_option linter.unusedVariables false
set_option linter.unusedSimpArgs false
namespace Go.Proofs.YtjmcokcdaddpcaaGreatDoor
open Go.RowKit
theorem flat_mod {α : Type} (C : α → List Value) (m : Nat) (hC : ∀ x, (C x).length = m) (f : α → α) (j : Nat) (u : Value) (hj : j < m) : ∀ (l : List α) (i : Nat), (∀ x, l[i]? = some x → C (f x) = (C x).set j u) → (l.modify i f).flatMap C = if i < l.length then (l.flatMap C).set (i * m + j) u else l.flatMap C
  | [], i, _ => by simp
  | a :: l, 0, h => by
    simp only [List.modify_zero_cons, List.flatMap_cons, List.length_cons]
    rw [h a rfl, if_pos (by omega), Nat.zero_mul, Nat.zero_add, List.set_append_left _ _ (by rw [hC]; exact hj)]
  | a :: l, i + 1, h => by
    have ih := flat_mod C m hC f j u hj l i (fun x hx => h x (by simpa using hx))
    simp only [List.modify_succ_cons, List.flatMap_cons, List.length_cons]
    rw [ih]
    by_cases hi : i < l.length
    · rw [if_pos hi, if_pos (by omega), List.set_append_right _ _ (by rw [hC, Nat.succ_mul]; omega), hC]
      congr 2
      rw [Nat.succ_mul]; omega
    · rw [if_neg hi, if_neg (by omega)]
theorem ev_mod (f : Dsr.Ev → Dsr.Ev) (j : Nat) (u : Value) (hj : j < 5) : ∀ (es : List Dsr.Ev) (rv : List Value) (i : Nat), (∀ x v, es[i]? = some x → rv[i]? = some v → evC (f x) v = (evC x v).set j u) → rv.length = es.length → evCells (es.modify i f) rv = if i < es.length then (evCells es rv).set (i * 5 + j) u else evCells es rv
  | [], rv, i, _, _ => by simp
  | a :: es, [], i, _, h => by simp at h
  | a :: es, b :: rv, 0, h, hl => by
    simp only [List.modify_zero_cons, List.length_cons]
    show evC (f a) b ++ evCells es rv = _
    rw [h a b rfl rfl, if_pos (by omega), Nat.zero_mul, Nat.zero_add]
    show _ = (evC a b ++ evCells es rv).set j u
    rw [List.set_append_left _ _ (by simpa [evC] using hj)]
  | a :: es, b :: rv, i + 1, h, hl => by
    have ih := ev_mod f j u hj es rv i (fun x v hx hv => h x v (by simpa using hx) (by simpa using hv)) (by simpa using hl)
    simp only [List.modify_succ_cons, List.length_cons]
    show evC a b ++ evCells (es.modify i f) rv = _
    rw [ih]
    by_cases hi : i < es.length
    · rw [if_pos hi, if_pos (by omega)]
      show _ = (evC a b ++ evCells es rv).set ((i + 1) * 5 + j) u
      rw [List.set_append_right _ _ (by simp [evC]; omega)]
      congr 2
      simp [evC]; omega
    · rw [if_neg hi, if_neg (by omega)]; rfl
theorem ev_roles (v' : Value) (f : Dsr.Ev → Dsr.Ev) (hf : ∀ x, (f x).name = x.name ∧ (f x).done = x.done ∧ (f x).inn = x.inn ∧ (f x).due = x.due) : ∀ (es : List Dsr.Ev) (rv : List Value) (i : Nat), rv.length = es.length → i < es.length → evCells (es.modify i f) (rv.set i v') = (evCells es rv).set (i * 5 + 1) v'
  | [], rv, i, _, h => by simp at h
  | a :: es, [], i, h, _ => by simp at h
  | a :: es, b :: rv, 0, hl, hi => by
    obtain ⟨h1, h2, h3, h4⟩ := hf a
    show evC (f a) v' ++ evCells es rv = (evC a b ++ evCells es rv).set (0 * 5 + 1) v'
    rw [List.set_append_left _ _ (by simp [evC])]
    simp [evC, h1, h2, h3, h4]
  | a :: es, b :: rv, i + 1, hl, hi => by
    have ih := ev_roles v' f hf es rv i (by simpa using hl) (by simpa using hi)
    show evC a b ++ evCells (es.modify i f) (rv.set i v') = (evC a b ++ evCells es rv).set ((i + 1) * 5 + 1) v'
    rw [ih, List.set_append_right _ _ (by simp [evC]; omega)]
    congr 2
    simp [evC]; omega
theorem evCells_sn : ∀ (es : List Dsr.Ev) (vs : List Value) (e : Dsr.Ev) (v : Value), vs.length = es.length → evCells (es ++ [e]) (vs ++ [v]) = evCells es vs ++ evC e v
  | [], [], e, v, _ => by simp [evCells]
  | a :: es, b :: vs, e, v, h => by
    show evC a b ++ evCells (es ++ [e]) (vs ++ [v]) = evC a b ++ evCells es vs ++ evC e v
    rw [evCells_sn es vs e v (by simpa using h), List.append_assoc]
  | [], b :: vs, e, v, h => by simp at h
  | a :: es, [], e, v, h => by simp at h
theorem roleRows_mod (f : Dsr.Ev → Dsr.Ev) (hf : ∀ x, (f x).roles = x.roles) : ∀ (es : List Dsr.Ev) (rv : List Value) (i : Nat), roleRows (es.modify i f) rv = roleRows es rv
  | [], rv, i => by simp
  | a :: es, [], i => by cases i <;> simp [roleRows]
  | a :: es, b :: rv, 0 => by simp [roleRows, hf a]
  | a :: es, b :: rv, i + 1 => by
    have := roleRows_mod f hf es rv i
    simp only [List.modify_succ_cons]
    show _ :: roleRows (es.modify i f) rv = _
    rw [this]; rfl
theorem roleRows_set (f : Dsr.Ev → Dsr.Ev) (v' : Value) : ∀ (es : List Dsr.Ev) (rv : List Value) (i : Nat) (x : Dsr.Ev), es[i]? = some x → rv.length = es.length → roleRows (es.modify i f) (rv.set i v') = (roleRows es rv).set i ⟨v', 9, 1, (f x).roles.length, (f x).roles.map strV⟩
  | [], rv, i, x, h, _ => by simp at h
  | a :: es, [], i, x, _, h => by simp at h
  | a :: es, b :: rv, 0, x, h, hl => by
    have : a = x := by simpa using h
    subst this
    rfl
  | a :: es, b :: rv, i + 1, x, h, hl => by
    have ih := roleRows_set f v' es rv i x (by simpa using h) (by simpa using hl)
    show _ :: roleRows (es.modify i f) (rv.set i v') = _ :: (roleRows es rv).set i _
    rw [ih]
theorem roleRows_at (es : List Dsr.Ev) (rv : List Value) (i : Nat) (x : Dsr.Ev) (v : Value) (h : es[i]? = some x) (hv : rv[i]? = some v) : (roleRows es rv)[i]? = some ⟨v, 9, 1, x.roles.length, x.roles.map strV⟩ := by
  unfold roleRows
  rw [List.getElem?_zipWith, h, hv]
theorem roleRows_sn : ∀ (es : List Dsr.Ev) (rv : List Value) (x : Dsr.Ev) (v : Value), rv.length = es.length → roleRows (es ++ [x]) (rv ++ [v]) = roleRows es rv ++ [⟨v, 9, 1, x.roles.length, x.roles.map strV⟩] := by
  intro es rv x v h
  unfold roleRows
  rw [List.zipWith_append h.symm]
  rfl
section
variable {B b : Nat} {w w' : World} {l : LK} {s : LS}
/-- From one state of the rows to the next: what the look keeps. -/
theorem lnext_of {l' : LK} {s' : LS} {row : Option Nat} (h : LkAt B b w l s) (hg : w.grownBy w' row) (hrow : ∀ k, row = some k → LMine b l s k ∧ k ≠ b) (o : Nat) (v : Value) (hrows : RowsOk B w' [b] (lkRows l' s')) (hcell : (lkCells l s).setIfInBounds o v = lkCells l' s') (hlen : s'.rv.length = l'.events.length)
    (hmine : ∀ k, LMine b l' s' k → LMine b l s k ∨ w.heap.size ≤ k) : LNext B b w l s (w'.setCell ⟨b, o, none⟩ v) l' s' := by
  have hbw : w'.heap[b]? = w.heap[b]? := hg.block b h.lt (fun e => (hrow b e.symm).2 rfl)
  refine ⟨⟨?_, hrows.put (by simp) o v, hlen⟩, ((Kp.refl _ _).grown hg (fun k hk => .inl (hrow k hk).1)).setCell (.inl (.inl (by simp))) _, hmine⟩
  rw [blk_set (hbw.trans h.blk), hcell]
theorem owns_set {fs : List Nat} {rows : List Row} {i : Nat} {r r' : Row} {N : Nat} (hr : rows[i]? = some r) (hat : ∀ g, r'.v.ownBlock = some g → r.v.ownBlock = some g ∨ N ≤ g) {k : Nat} (hk : Owns fs (rows.set i r') k) : Owns fs rows k ∨ N ≤ k := by
  rcases hk with hk | ⟨q, hq, hk⟩
  · exact .inl (.inl hk)
  · rcases List.mem_or_eq_of_mem_set hq with hq | rfl
    · exact .inl (.inr ⟨q, hq, hk⟩)
    · rcases hat k hk with h | h
      · exact .inl (.inr ⟨r, List.mem_of_getElem? hr, h⟩)
      · exact .inr h
theorem at_of {v : Option Nat} {g n c N : Nat} (hat : v = some g ∨ g = N) : ∀ k, (Value.slice (some ⟨g, 0, none⟩) n c).ownBlock = some k → v = some k ∨ N ≤ k := by
  intro k hk
  have : g = k := by simpa [Value.ownBlock] using hk
  subst this
  rcases hat with h | h
  · exact .inl h
  · exact .inr (by omega)
theorem LkAt.own0 (h : LkAt B b w l s) : w.ownsRow B 226 5 s.ve l.events.length (evCells l.events s.rv) := h.rows.own ⟨s.ve, 226, 5, l.events.length, evCells l.events s.rv⟩ (by simp [lkRows])
theorem LkAt.own1 (h : LkAt B b w l s) : w.ownsRow B 269 3 s.vr l.rules.length (l.rules.flatMap rrC) := h.rows.own ⟨s.vr, 269, 3, l.rules.length, l.rules.flatMap rrC⟩ (by simp [lkRows])
theorem LkAt.own2 (h : LkAt B b w l s) : w.ownsRow B 271 6 s.vu l.uses.length (l.uses.flatMap ruC) := h.rows.own ⟨s.vu, 271, 6, l.uses.length, l.uses.flatMap ruC⟩ (by simp [lkRows])
theorem LkAt.rowMine (h : LkAt B b w l s) {r : Row} (hr : r ∈ lkRows l s) : ∀ k, r.v.ownBlock = some k → LMine b l s k ∧ k ≠ b := fun k hk => ⟨.inr ⟨r, hr, hk⟩, fun e => h.rows.notFixed hr hk (by simp [e])⟩
/-- One use more. -/
theorem LkAt.useAdd (h : LkAt B b w l s) (u : RU) {g cap : Nat} (hown : w'.ownsRow B 271 6 (.slice (some ⟨g, 0, none⟩) (l.uses.length + 1) cap) (l.uses.length + 1) (l.uses.flatMap ruC ++ ruC u)) (hg : w.grownBy w' s.vu.ownBlock) (hat : s.vu.ownBlock = some g ∨ g = w.heap.size) :
    LNext B b w l s (w'.setCell ⟨b, 6, none⟩ (.slice (some ⟨g, 0, none⟩) (l.uses.length + 1) cap)) { l with uses := l.uses ++ [u] } { s with vu := .slice (some ⟨g, 0, none⟩) (l.uses.length + 1) cap } := by
  have hr : (lkRows l s)[2]? = some ⟨s.vu, 271, 6, l.uses.length, l.uses.flatMap ruC⟩ := rfl
  have e : lkRows { l with uses := l.uses ++ [u] } { s with vu := .slice (some ⟨g, 0, none⟩) (l.uses.length + 1) cap } = (lkRows l s).set 2 ⟨.slice (some ⟨g, 0, none⟩) (l.uses.length + 1) cap, 271, 6, l.uses.length + 1, l.uses.flatMap ruC ++ ruC u⟩ := by
    simp [lkRows]
  refine lnext_of h hg (fun k hk => h.rowMine (List.mem_of_getElem? hr) k hk) 6 _ ?_ rfl h.len ?_
  · rw [e]
    exact h.rows.setRow hr hown hg.size (fun k hk hn => hg.block k hk hn) (at_of hat)
  · intro k hk
    unfold LMine at hk
    rw [e] at hk
    exact owns_set hr (at_of hat) hk
/-- One rule more. -/
theorem LkAt.ruleAdd (h : LkAt B b w l s) (u : RR) {g cap : Nat} (hown : w'.ownsRow B 269 3 (.slice (some ⟨g, 0, none⟩) (l.rules.length + 1) cap) (l.rules.length + 1) (l.rules.flatMap rrC ++ rrC u)) (hg : w.grownBy w' s.vr.ownBlock) (hat : s.vr.ownBlock = some g ∨ g = w.heap.size) :
    LNext B b w l s (w'.setCell ⟨b, 5, none⟩ (.slice (some ⟨g, 0, none⟩) (l.rules.length + 1) cap)) { l with rules := l.rules ++ [u] } { s with vr := .slice (some ⟨g, 0, none⟩) (l.rules.length + 1) cap } := by
  have hr : (lkRows l s)[1]? = some ⟨s.vr, 269, 3, l.rules.length, l.rules.flatMap rrC⟩ := rfl
  have e : lkRows { l with rules := l.rules ++ [u] } { s with vr := .slice (some ⟨g, 0, none⟩) (l.rules.length + 1) cap } = (lkRows l s).set 1 ⟨.slice (some ⟨g, 0, none⟩) (l.rules.length + 1) cap, 269, 3, l.rules.length + 1, l.rules.flatMap rrC ++ rrC u⟩ := by
    simp [lkRows]
  refine lnext_of h hg (fun k hk => h.rowMine (List.mem_of_getElem? hr) k hk) 5 _ ?_ rfl h.len ?_
  · rw [e]
    exact h.rows.setRow hr hown hg.size (fun k hk hn => hg.block k hk hn) (at_of hat)
  · intro k hk
    unfold LMine at hk
    rw [e] at hk
    exact owns_set hr (at_of hat) hk
/-- One event more, with no role yet. -/
theorem LkAt.eventAdd (h : LkAt B b w l s) (u : Dsr.Ev) (hu : u.roles = []) {g cap : Nat} (hown : w'.ownsRow B 226 5 (.slice (some ⟨g, 0, none⟩) (l.events.length + 1) cap) (l.events.length + 1) (evCells l.events s.rv ++ evC u (.slice none 0 0))) (hg : w.grownBy w' s.ve.ownBlock) (hat : s.ve.ownBlock = some g ∨ g = w.heap.size) :
    LNext B b w l s (w'.setCell ⟨b, 4, none⟩ (.slice (some ⟨g, 0, none⟩) (l.events.length + 1) cap)) { l with events := l.events ++ [u] } { s with ve := .slice (some ⟨g, 0, none⟩) (l.events.length + 1) cap, rv := s.rv ++ [.slice none 0 0] } := by
  have hr : (lkRows l s)[0]? = some ⟨s.ve, 226, 5, l.events.length, evCells l.events s.rv⟩ := rfl
  have e : lkRows { l with events := l.events ++ [u] } { s with ve := .slice (some ⟨g, 0, none⟩) (l.events.length + 1) cap, rv := s.rv ++ [.slice none 0 0] } = (lkRows l s).set 0 ⟨.slice (some ⟨g, 0, none⟩) (l.events.length + 1) cap, 226, 5, l.events.length + 1, evCells l.events s.rv ++ evC u (.slice none 0 0)⟩ ++ [⟨.slice none 0 0, 9, 1, 0, []⟩] := by
    unfold lkRows
    simp only
    rw [evCells_sn _ _ _ _ h.len, roleRows_sn _ _ _ _ h.len, hu]
    simp
  refine lnext_of h hg (fun k hk => h.rowMine (List.mem_of_getElem? hr) k hk) 4 _ ?_ rfl (by simp [h.len]) ?_
  · rw [e]
    exact (h.rows.setRow (r' := ⟨.slice (some ⟨g, 0, none⟩) (l.events.length + 1) cap, 226, 5, l.events.length + 1, evCells l.events s.rv ++ evC u (.slice none 0 0)⟩) hr hown hg.size (fun k hk hn => hg.block k hk hn) (at_of hat)).add (World.ownsRow_nil _ _ _ _) (fun k hk => by simp [Value.ownBlock] at hk)
  · intro k hk
    unfold LMine at hk
    rw [e] at hk
    have hk : Owns [b] ((lkRows l s).set 0 ⟨.slice (some ⟨g, 0, none⟩) (l.events.length + 1) cap, 226, 5, l.events.length + 1, evCells l.events s.rv ++ evC u (.slice none 0 0)⟩) k := by
      rcases hk with hk | ⟨q, hq, hk⟩
      · exact .inl hk
      · rcases List.mem_append.1 hq with hq | hq
        · exact .inr ⟨q, hq, hk⟩
        · simp at hq; subst hq; simp [Value.ownBlock] at hk
    exact owns_set hr (at_of hat) hk
/-- The last rule is changed. -/
theorem LkAt.ruleMod (h : LkAt B b w l s) {g c m : Nat} (hv : s.vr = .slice (some ⟨g, 0, none⟩) (m + 1) c) (hl : l.rules.length = m + 1) (f : RR → RR) (j : Nat) (u : Value) (hj : j < 3) (hf : ∀ x, rrC (f x) = (rrC x).set j u) :
    LNext B b w l s (w.setCell ⟨g, m * 3 + j, none⟩ u) { l with rules := modLast f l.rules } s := by
  have hr : (lkRows l s)[1]? = some ⟨s.vr, 269, 3, l.rules.length, l.rules.flatMap rrC⟩ := rfl
  have hfm := flat_mod rrC 3 (fun _ => rfl) f j u hj l.rules m (fun x _ => hf x)
  rw [if_pos (by omega)] at hfm
  have e : lkRows { l with rules := modLast f l.rules } s = (lkRows l s).set 1 { v := s.vr, e := 269, m := 3, n := l.rules.length, xs := (l.rules.flatMap rrC).set (m * 3 + j) u } := by
    unfold lkRows modLast
    simp only
    rw [hl, Nat.add_sub_cancel, hfm, List.length_modify, hl]
    rfl
  have hgb : g ≠ b := (h.rowMine (List.mem_of_getElem? hr) g (by rw [hv]; rfl)).2
  refine ⟨⟨?_, ?_, h.len⟩, (Kp.refl _ _).setCell (.inl (h.rowMine (List.mem_of_getElem? hr) g (by rw [hv]; rfl)).1) _, ?_⟩
  · rw [heap_setCell_other _ _ _ _ (fun e => hgb e.symm)]; exact h.blk
  · rw [e]
    exact h.rows.setIn hr (by rw [hv, hl]) (m * 3 + j) u
  · intro k hk
    unfold LMine at hk
    rw [e] at hk
    refine owns_set hr ?_ hk
    exact fun g' hg' => .inl hg'
/-- A mark of the last event is changed. -/
theorem LkAt.eventMod (h : LkAt B b w l s) {g c m : Nat} (hv : s.ve = .slice (some ⟨g, 0, none⟩) (m + 1) c) (hl : l.events.length = m + 1) (f : Dsr.Ev → Dsr.Ev) (j : Nat) (u : Value) (hj : j < 5) (hf : ∀ x v, evC (f x) v = (evC x v).set j u) (hro : ∀ x, (f x).roles = x.roles) :
    LNext B b w l s (w.setCell ⟨g, m * 5 + j, none⟩ u) { l with events := modLast f l.events } s := by
  have hr : (lkRows l s)[0]? = some ⟨s.ve, 226, 5, l.events.length, evCells l.events s.rv⟩ := rfl
  have hfm := ev_mod f j u hj l.events s.rv m (fun x v _ _ => hf x v) h.len
  rw [if_pos (by omega)] at hfm
  have e : lkRows { l with events := modLast f l.events } s = (lkRows l s).set 0 { v := s.ve, e := 226, m := 5, n := l.events.length, xs := (evCells l.events s.rv).set (m * 5 + j) u } := by
    unfold lkRows modLast
    simp only
    rw [hl, Nat.add_sub_cancel, hfm, List.length_modify, hl, roleRows_mod f hro]
    rfl
  have hgb : g ≠ b := (h.rowMine (List.mem_of_getElem? hr) g (by rw [hv]; rfl)).2
  refine ⟨⟨?_, ?_, by simp [modLast, h.len]⟩, (Kp.refl _ _).setCell (.inl (h.rowMine (List.mem_of_getElem? hr) g (by rw [hv]; rfl)).1) _, ?_⟩
  · rw [heap_setCell_other _ _ _ _ (fun e => hgb e.symm)]; exact h.blk
  · rw [e]
    exact h.rows.setIn hr (by rw [hv, hl]) (m * 5 + j) u
  · intro k hk
    unfold LMine at hk
    rw [e] at hk
    refine owns_set hr ?_ hk
    exact fun g' hg' => .inl hg'
/-- A role more of the last event. -/
theorem LkAt.roleAdd (h : LkAt B b w l s) {ge ce m : Nat} (hv : s.ve = .slice (some ⟨ge, 0, none⟩) (m + 1) ce) (hl : l.events.length = m + 1) {x : Dsr.Ev} {v : Value} (hx : l.events[m]? = some x) (hvx : s.rv[m]? = some v) (t : List UInt8) {g cap : Nat}
    (hown : w'.ownsRow B 9 1 (.slice (some ⟨g, 0, none⟩) (x.roles.length + 1) cap) (x.roles.length + 1) (x.roles.map strV ++ [strV t])) (hg : w.grownBy w' v.ownBlock) (hat : v.ownBlock = some g ∨ g = w.heap.size) :
    LNext B b w l s (w'.setCell ⟨ge, m * 5 + 1, none⟩ (.slice (some ⟨g, 0, none⟩) (x.roles.length + 1) cap)) { l with events := modLast (fun x => { x with roles := x.roles ++ [t] }) l.events } { s with rv := s.rv.set m (.slice (some ⟨g, 0, none⟩) (x.roles.length + 1) cap) } := by
  have hr : (lkRows l s)[m + 3]? = some ⟨v, 9, 1, x.roles.length, x.roles.map strV⟩ := roleRows_at _ _ _ _ _ hx hvx
  have hr0 : (lkRows l s)[0]? = some ⟨s.ve, 226, 5, l.events.length, evCells l.events s.rv⟩ := rfl
  have h1 := h.rows.setRow (r' := ⟨.slice (some ⟨g, 0, none⟩) (x.roles.length + 1) cap, 9, 1, x.roles.length + 1, x.roles.map strV ++ [strV t]⟩) hr hown hg.size (fun k hk hn => hg.block k hk hn) (at_of hat)
  have hr1 : ((lkRows l s).set (m + 3) ⟨.slice (some ⟨g, 0, none⟩) (x.roles.length + 1) cap, 9, 1, x.roles.length + 1, x.roles.map strV ++ [strV t]⟩)[0]? = some ⟨s.ve, 226, 5, l.events.length, evCells l.events s.rv⟩ := by
    rw [List.getElem?_set_ne (by omega)]; exact hr0
  have h2 := h1.setIn hr1 (by rw [hv, hl]) (m * 5 + 1) (.slice (some ⟨g, 0, none⟩) (x.roles.length + 1) cap)
  have hev := ev_roles (.slice (some ⟨g, 0, none⟩) (x.roles.length + 1) cap) (fun x => { x with roles := x.roles ++ [t] }) (fun _ => ⟨rfl, rfl, rfl, rfl⟩) l.events s.rv m h.len (by omega)
  have hrs := roleRows_set (fun x => { x with roles := x.roles ++ [t] }) (.slice (some ⟨g, 0, none⟩) (x.roles.length + 1) cap) l.events s.rv m x hx h.len
  have e : lkRows { l with events := modLast (fun x => { x with roles := x.roles ++ [t] }) l.events } { s with rv := s.rv.set m (.slice (some ⟨g, 0, none⟩) (x.roles.length + 1) cap) } = ((lkRows l s).set (m + 3) ⟨.slice (some ⟨g, 0, none⟩) (x.roles.length + 1) cap, 9, 1, x.roles.length + 1, x.roles.map strV ++ [strV t]⟩).set 0 { v := s.ve, e := 226, m := 5, n := l.events.length, xs := (evCells l.events s.rv).set (m * 5 + 1) (.slice (some ⟨g, 0, none⟩) (x.roles.length + 1) cap) } := by
    unfold lkRows modLast
    simp only
    rw [hl, Nat.add_sub_cancel, hev, hrs, List.length_modify, hl]
    simp
  have hm0 := h.rowMine (List.mem_of_getElem? hr0)
  have hm3 := h.rowMine (List.mem_of_getElem? hr)
  have hgb : ge ≠ b := (hm0 ge (by rw [hv]; rfl)).2
  have hbw : w'.heap[b]? = w.heap[b]? := hg.block b h.lt (fun e => (hm3 b e.symm).2 rfl)
  refine ⟨⟨?_, ?_, by simp [modLast, h.len]⟩, ((Kp.refl _ _).grown hg (fun k hk => .inl (hm3 k hk).1)).setCell (.inl (hm0 ge (by rw [hv]; rfl)).1) _, ?_⟩
  · rw [heap_setCell_other _ _ _ _ (fun e => hgb e.symm)]; exact hbw.trans h.blk
  · rw [e]; exact h2
  · intro k hk
    unfold LMine at hk
    rw [e] at hk
    have h3 := owns_set (N := w.heap.size) hr1 (by intro g' hg'; exact .inl hg') hk
    rcases h3 with h3 | h3
    · exact owns_set hr (at_of hat) h3
    · exact .inr h3
end
end Go.Proofs.YtjmcokcdaddpcaaGreatDoor
