import Derived.Test.YtjmcokcdaddpcaaGreatDoorPureA
/- The reader over a list of tokens: no program in it. -/
namespace Dsr
/-- The token behind the last one. -/
abbrev endT (n : Nat) : Tok := ⟨10, 0, n, []⟩
/-- These are the tokens of a text from a place on. -/
def Lst (t : List UInt8) : Nat → List Tok → Prop
  | n, [] => scan t n = endT t.length
  | n, k :: ts => scan t n = k ∧ Lst t (k.at_ + k.text.length) ts
abbrev QR := Rd × List Tok
def stepL (E : Tok) (q : QR) : QR := ({ q.1 with now := q.2.headD E }, q.2.tail)
def refuseL (E : Tok) (q : QR) (e : Nat) : QR := ({ q.1 with fErr := if q.1.fErr = 0 then e else q.1.fErr, fAt := if q.1.fErr = 0 then q.1.now.at_ else q.1.fAt, now := E }, [])
def takeIfL (E : Tok) (q : QR) (k : Nat) : QR := if q.1.now.kind = k then stepL E q else q
def takeL (E : Tok) (q : QR) (k : Nat) : QR := if q.1.now.kind = k then stepL E q else refuseL E q 2
def nameSizeL (E : Tok) (q : QR) : QR := if bigName q.1 = true then refuseL E q 3 else q
def useL (q : QR) (us : List Us) : QR := ({ q.1 with uses := us }, q.2)
def nameL (E : Tok) (q : QR) (a : Nat) : QR := takeL E (useL (nameSizeL E q) (q.1.uses ++ [⟨a, q.1.events.length, q.1.now.text, q.1.now.at_⟩])) 1
def rolesSizeL (E : Tok) (q : QR) (n : Nat) : QR := if bigRoles q.1 n = true then refuseL E q 3 else q
def rolesLoopL (E : Tok) : Nat → QR → List (List UInt8) → QR × List (List UInt8)
  | 0, q, l => (q, l)
  | f + 1, q, l =>
    if q.1.now.kind = 7 then
      rolesLoopL E f (nameL E (rolesSizeL E (stepL E q) l.length) 1) (l ++ [(rolesSizeL E (stepL E q) l.length).1.now.text])
    else (q, l)
def rolesL (E : Tok) (q : QR) : QR × List (List UInt8) := rolesLoopL E 5 (nameL E q 1) [q.1.now.text]
def markL (E : Tok) (q : QR) : QR := takeIfL E (takeIfL E (takeIfL E q 4) 5) 6
def evHeadL (E : Tok) (q : QR) : QR := takeL E (nameL E (takeL E q 2) 0) 3
def evBodyL (E : Tok) (q : QR) : QR := takeL E (markL E (rolesL E (evHeadL E q)).1) 8
def evOfL (E : Tok) (q : QR) : Ev :=
  ⟨(takeL E q 2).1.now.text, (rolesL E (evHeadL E q)).2, decide ((takeIfL E (takeIfL E (rolesL E (evHeadL E q)).1 4) 5).1.now.kind = 6), !decide ((rolesL E (evHeadL E q)).1.1.now.kind = 4), decide ((takeIfL E (rolesL E (evHeadL E q)).1 4).1.now.kind = 5)⟩
def eventL (E : Tok) (q : QR) : QR :=
  if q.1.events.length = 10 then refuseL E q 3 else ({ (evBodyL E q).1 with events := (evBodyL E q).1.events ++ [evOfL E q] }, (evBodyL E q).2)
def ruHeadL (E : Tok) (q : QR) : QR := takeL E (nameL E q 2) 9
def ruBodyL (E : Tok) (q : QR) : QR := takeL E (nameL E (ruHeadL E q) 2) 8
def ruOfL (E : Tok) (q : QR) : Rl := ⟨q.1.now.text, (ruHeadL E q).1.now.text, (nameL E q 2).1.now.rule⟩
def ruleL (E : Tok) (q : QR) : QR :=
  if q.1.rules.length = 20 then refuseL E q 3 else ({ (ruBodyL E q).1 with rules := (ruBodyL E q).1.rules ++ [ruOfL E q] }, (ruBodyL E q).2)
def linesL (E : Tok) : Nat → QR → QR
  | 0, q => q
  | f + 1, q => if q.1.now.kind = 10 then q else if q.1.now.kind = 2 then linesL E f (eventL E q) else if q.1.now.kind = 1 then linesL E f (ruleL E q) else linesL E f (refuseL E q 2)
def newL (E : Tok) (ts : List Tok) : QR := (⟨ts.headD E, [], [], [], 0, 0⟩, ts.tail)
def readL (E : Tok) (ts : List Tok) : Rd := (linesL E 32 (newL E ts)).1
/-- The list-reader stands where the reader does. -/
def At (t : List UInt8) (q : QR) (r : Rd) : Prop := q.1 = r ∧ Lst t (r.now.at_ + r.now.text.length) q.2
section
variable {t : List UInt8} {q : QR} {r : Rd}
theorem lst_end (t : List UInt8) : Lst t t.length [] := by
  show scan t t.length = _
  unfold scan
  rw [blankLen_end (Nat.le_refl _), Nat.add_zero, List.drop_eq_nil_of_le (Nat.le_refl _)]
  rfl
theorem At.step (h : At t q r) : At t (stepL (endT t.length) q) (step t r) := by
  obtain ⟨rfl, h⟩ := h
  obtain ⟨r, ts⟩ := q
  rcases ts with _ | ⟨k, ts⟩
  · refine ⟨?_, ?_⟩
    · show ({ r with now := endT t.length } : Rd) = { r with now := _ }
      rw [show scan t (r.now.at_ + r.now.text.length) = endT t.length from h]
    · show Lst t ((scan t (r.now.at_ + r.now.text.length)).at_ + (scan t (r.now.at_ + r.now.text.length)).text.length) []
      rw [show scan t (r.now.at_ + r.now.text.length) = endT t.length from h]
      exact lst_end t
  · obtain ⟨h1, h2⟩ := h
    refine ⟨?_, ?_⟩
    · show ({ r with now := k } : Rd) = { r with now := _ }
      rw [h1]
    · show Lst t ((scan t (r.now.at_ + r.now.text.length)).at_ + (scan t (r.now.at_ + r.now.text.length)).text.length) ts
      rw [h1]
      exact h2
theorem At.refuse (h : At t q r) (e : Nat) : At t (refuseL (endT t.length) q e) (refuse t r e) := by
  obtain ⟨rfl, h⟩ := h
  exact ⟨rfl, lst_end t⟩
theorem At.takeIf (h : At t q r) (k : Nat) : At t (takeIfL (endT t.length) q k) (takeIf t r k) := by
  have e := h.1
  unfold Dsr.takeIf takeIfL
  rw [e]
  split
  · exact h.step
  · exact h
theorem At.take (h : At t q r) (k : Nat) : At t (takeL (endT t.length) q k) (take t r k) := by
  have e := h.1
  unfold Dsr.take takeL
  rw [e]
  split
  · exact h.step
  · exact h.refuse 2
theorem At.nameSize (h : At t q r) : At t (nameSizeL (endT t.length) q) (nameSize t r) := by
  have e := h.1
  unfold Dsr.nameSize nameSizeL
  rw [e]
  split
  · exact h.refuse 3
  · exact h
theorem At.use (h : At t q r) (us : List Us) : At t (useL q us) { r with uses := us } := by
  obtain ⟨rfl, h⟩ := h
  exact ⟨rfl, h⟩
theorem At.name (h : At t q r) (a : Nat) : At t (nameL (endT t.length) q a) (name t r a) := by
  have e := h.1
  unfold Dsr.name nameL
  rw [e]
  exact (h.nameSize.use _).take 1
theorem At.rolesSize (h : At t q r) (n : Nat) : At t (rolesSizeL (endT t.length) q n) (rolesSize t r n) := by
  have e := h.1
  unfold Dsr.rolesSize rolesSizeL
  rw [e]
  split
  · exact h.refuse 3
  · exact h
end
theorem At.rolesLoop {t : List UInt8} : ∀ (f : Nat) {q : QR} {r : Rd} (l : List (List UInt8)), At t q r → At t (rolesLoopL (endT t.length) f q l).1 (rolesLoop t f r l).1 ∧ (rolesLoopL (endT t.length) f q l).2 = (rolesLoop t f r l).2
  | 0, q, r, l, h => ⟨h, rfl⟩
  | f + 1, q, r, l, h => by
    unfold Dsr.rolesLoop rolesLoopL
    rw [h.1]
    split
    · have h2 := h.step.rolesSize l.length
      have e := h2.1
      rw [e]
      exact At.rolesLoop f _ (h2.name 1)
    · exact ⟨h, rfl⟩
section
variable {t : List UInt8} {q : QR} {r : Rd}
theorem At.roles (h : At t q r) : At t (rolesL (endT t.length) q).1 (roles t r).1 ∧ (rolesL (endT t.length) q).2 = (roles t r).2 := by
  unfold Dsr.roles rolesL
  rw [h.1]
  exact At.rolesLoop 5 _ (h.name 1)
theorem At.mark (h : At t q r) : At t (markL (endT t.length) q) (markRd t r) := ((h.takeIf 4).takeIf 5).takeIf 6
theorem At.evHead (h : At t q r) : At t (evHeadL (endT t.length) q) (evHead t r) := ((h.take 2).name 0).take 3
theorem At.evBody (h : At t q r) : At t (evBodyL (endT t.length) q) (evBody t r) := h.evHead.roles.1.mark.take 8
theorem At.evOf (h : At t q r) : evOfL (endT t.length) q = evOf t r := by
  have h1 := h.evHead.roles
  unfold evOfL Dsr.evOf markDone markIn markDue
  rw [(h.take 2).1, h1.2, ((h1.1.takeIf 4).takeIf 5).1, (h1.1.takeIf 4).1, h1.1.1]
theorem At.event (h : At t q r) : At t (eventL (endT t.length) q) (event t r) := by
  unfold Dsr.event eventL
  rw [h.1]
  split
  · exact h.refuse 3
  · have hb := h.evBody
    rw [h.evOf]
    generalize evBodyL (endT t.length) q = x at *
    generalize Dsr.evBody t r = y at *
    obtain ⟨rfl, hb⟩ := hb
    exact ⟨rfl, hb⟩
theorem At.ruHead (h : At t q r) : At t (ruHeadL (endT t.length) q) (ruHead t r) := (h.name 2).take 9
theorem At.ruBody (h : At t q r) : At t (ruBodyL (endT t.length) q) (ruBody t r) := (h.ruHead.name 2).take 8
theorem At.ruOf (h : At t q r) : ruOfL (endT t.length) q = ruOf t r := by
  unfold ruOfL Dsr.ruOf
  rw [h.1, h.ruHead.1, (h.name 2).1]
theorem At.rule (h : At t q r) : At t (ruleL (endT t.length) q) (rule t r) := by
  unfold Dsr.rule ruleL
  rw [h.1]
  split
  · exact h.refuse 3
  · have hb := h.ruBody
    rw [h.ruOf]
    generalize ruBodyL (endT t.length) q = x at *
    generalize Dsr.ruBody t r = y at *
    obtain ⟨rfl, hb⟩ := hb
    exact ⟨rfl, hb⟩
end
theorem At.lines {t : List UInt8} : ∀ (f : Nat) {q : QR} {r : Rd}, At t q r → At t (linesL (endT t.length) f q) (lines t f r)
  | 0, _, _, h => h
  | f + 1, q, r, h => by
    unfold Dsr.lines linesL
    rw [h.1]
    split
    · exact h
    · split
      · exact At.lines f h.event
      · split
        · exact At.lines f h.rule
        · exact At.lines f (h.refuse 2)
/-- The reader of a text is the reader of its tokens. -/
theorem readR_eq {t : List UInt8} {ts : List Tok} (h : Lst t 0 ts) : readR t = readL (endT t.length) ts := by
  have h0 : At t (newL (endT t.length) ts) (newRd t) := by
    rcases ts with _ | ⟨k, ts⟩
    · have h : scan t 0 = endT t.length := h
      refine ⟨?_, ?_⟩
      · unfold newL newRd; rw [h]; rfl
      · unfold newRd; rw [h]; exact lst_end t
    · obtain ⟨h1, h2⟩ := h
      refine ⟨?_, ?_⟩
      · unfold newL newRd; rw [h1]; rfl
      · unfold newRd; rw [h1]; exact h2
  exact (At.lines 32 h0).1.symm
end Dsr
