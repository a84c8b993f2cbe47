
/- THE PLAIN MATHEMATICS of the graph texts: no program in it. -/
namespace Dsr
/-- A blank, a letter, a digit. -/
def blank (c : UInt8) : Bool := c.toNat == 32 || c.toNat == 9 || c.toNat == 10
def letter (c : UInt8) : Bool := decide (97 ≤ c.toNat) && decide (c.toNat ≤ 122)
def digit (c : UInt8) : Bool := decide (48 ≤ c.toNat) && decide (c.toNat ≤ 57)
def wordy (c : UInt8) : Bool := letter c || digit c
/-- The kind of a word: 1 a name, 2 event, 3 by, 4 out, 5 due, 6 done. -/
def wordKind (l : List UInt8) : Nat :=
  if l == [101, 118, 101, 110, 116] then 2 else if l == [98, 121] then 3 else if l == [111, 117, 116] then 4 else if l == [100, 117, 101] then 5 else if l == [100, 111, 110, 101] then 6 else 1
/-- A token: its kind, which rule (of a sign alone), where it begins, its text. -/
structure Tok where
  kind : Nat
  rule : Nat
  at_ : Nat
  text : List UInt8
/-- How many wordy bytes a list begins with. -/
def wordLen : List UInt8 → Nat
  | [] => 0
  | c :: l => if wordy c then wordLen l + 1 else 0
theorem wordLen_le : ∀ l, wordLen l ≤ l.length
  | [] => Nat.le_refl _
  | c :: l => by unfold wordLen; split <;> simp; exact wordLen_le l
def blankLen : List UInt8 → Nat
  | [] => 0
  | c :: l => if blank c then blankLen l + 1 else 0
theorem blankLen_le : ∀ l, blankLen l ≤ l.length
  | [] => Nat.le_refl _
  | c :: l => by unfold blankLen; split <;> simp; exact blankLen_le l
def signs : List (List UInt8) := [[45, 62, 42], [45, 62, 60, 62], [42, 45, 62], [45, 62, 43], [45, 62, 37]]
def pick5 (a b c d e : Bool) : Nat := if a then 0 else if b then 1 else if c then 2 else if d then 3 else if e then 4 else 5
/-- Which of the five signs a list begins with (from 0 on; 5: none). -/
def signOf (l : List UInt8) : Nat :=
  pick5 ([45, 62, 42].isPrefixOf l) ([45, 62, 60, 62].isPrefixOf l) ([42, 45, 62].isPrefixOf l) ([45, 62, 43].isPrefixOf l) ([45, 62, 37].isPrefixOf l)
theorem pick5_le : ∀ a b c d e : Bool, pick5 a b c d e ≤ 5 := by decide
theorem pick5_next : ∀ a b c d e : Bool, ∀ k : Fin 5, k.val ≤ pick5 a b c d e → [a, b, c, d, e].getD k.val false = false → k.val + 1 ≤ pick5 a b c d e := by decide
theorem pick5_here : ∀ a b c d e : Bool, ∀ k : Fin 5, k.val ≤ pick5 a b c d e → [a, b, c, d, e].getD k.val false = true → pick5 a b c d e = k.val := by decide
theorem signs_at (l : List UInt8) (k : Nat) (hk : k < 5) : (signs.getD k []).isPrefixOf l = [[45, 62, 42].isPrefixOf l, [45, 62, 60, 62].isPrefixOf l, [42, 45, 62].isPrefixOf l, [45, 62, 43].isPrefixOf l, [45, 62, 37].isPrefixOf l].getD k false := by
  rcases k with _ | _ | _ | _ | _ | k
  · rfl
  · rfl
  · rfl
  · rfl
  · rfl
  · omega
theorem signOf_le (l : List UInt8) : signOf l ≤ 5 := pick5_le _ _ _ _ _
theorem signOf_next (l : List UInt8) (k : Nat) (h : k ≤ signOf l) (hk : k < 5) (hb : (signs.getD k []).isPrefixOf l = false) : k + 1 ≤ signOf l :=
  pick5_next _ _ _ _ _ ⟨k, hk⟩ h ((signs_at l k hk).symm.trans hb)
theorem signOf_here (l : List UInt8) (k : Nat) (h : k ≤ signOf l) (hk : k < 5) (hb : (signs.getD k []).isPrefixOf l = true) : signOf l = k :=
  pick5_here _ _ _ _ _ ⟨k, hk⟩ h ((signs_at l k hk).symm.trans hb)
/-- The token at the head of a list that begins at a place. -/
def scanWord (l : List UInt8) (at_ : Nat) : Tok := ⟨wordKind (l.take (wordLen l)), 0, at_, l.take (wordLen l)⟩
def oneKind (l : List UInt8) : Nat := if l == [44] then 7 else if l == [59] then 8 else 0
def scanSign (l : List UInt8) (at_ : Nat) : Tok :=
  if signOf l < 5 then ⟨9, signOf l, at_, signs.getD (signOf l) []⟩ else ⟨oneKind (l.take 1), 0, at_, l.take 1⟩
def scanAt (l : List UInt8) (at_ : Nat) : Tok :=
  match l with
  | [] => ⟨10, 0, at_, []⟩
  | c :: _ => if letter c then scanWord l at_ else scanSign l at_
/-- The first token of a text at a place or behind it. -/
def scan (t : List UInt8) (from_ : Nat) : Tok :=
  scanAt (t.drop (from_ + blankLen (t.drop from_))) (from_ + blankLen (t.drop from_))
theorem blankLen_step {t : List UInt8} {k : Nat} {c : UInt8} (h : t[k]? = some c) : blankLen (t.drop k) = if blank c then blankLen (t.drop (k + 1)) + 1 else 0 := by
  have hk : k < t.length := by
    rcases Nat.lt_or_ge k t.length with hk | hk
    · exact hk
    · rw [List.getElem?_eq_none hk] at h; cases h
  rw [List.drop_eq_getElem_cons hk]
  rw [List.getElem?_eq_getElem hk] at h
  cases h
  rfl
theorem blankLen_end {t : List UInt8} {k : Nat} (h : t.length ≤ k) : blankLen (t.drop k) = 0 := by rw [List.drop_eq_nil_of_le h]; rfl
theorem wordLen_step {t : List UInt8} {k : Nat} {c : UInt8} (h : t[k]? = some c) : wordLen (t.drop k) = if wordy c then wordLen (t.drop (k + 1)) + 1 else 0 := by
  have hk : k < t.length := by
    rcases Nat.lt_or_ge k t.length with hk | hk
    · exact hk
    · rw [List.getElem?_eq_none hk] at h; cases h
  rw [List.drop_eq_getElem_cons hk]
  rw [List.getElem?_eq_getElem hk] at h
  cases h
  rfl
theorem wordLen_end {t : List UInt8} {k : Nat} (h : t.length ≤ k) : wordLen (t.drop k) = 0 := by rw [List.drop_eq_nil_of_le h]; rfl
end Dsr
/- The reader, as a function: no program in it. -/
namespace Dsr
structure Ev where
  name : List UInt8
  roles : List (List UInt8)
  done : Bool
  inn : Bool
  due : Bool
structure Rl where
  left : List UInt8
  right : List UInt8
  kind : Nat
structure Us where
  as_ : Nat
  event : Nat
  name : List UInt8
  at_ : Nat
structure Rd where
  now : Tok
  events : List Ev
  rules : List Rl
  uses : List Us
  fErr : Nat
  fAt : Nat
/-- The reader is within its text. -/
def Rd.ok (t : List UInt8) (r : Rd) : Prop := r.now.at_ + r.now.text.length ≤ t.length
def refuse (t : List UInt8) (r : Rd) (e : Nat) : Rd :=
  { r with fErr := if r.fErr = 0 then e else r.fErr, fAt := if r.fErr = 0 then r.now.at_ else r.fAt, now := ⟨10, 0, t.length, []⟩ }
def step (t : List UInt8) (r : Rd) : Rd := { r with now := scan t (r.now.at_ + r.now.text.length) }
def takeIf (t : List UInt8) (r : Rd) (k : Nat) : Rd := if r.now.kind = k then step t r else r
def take (t : List UInt8) (r : Rd) (k : Nat) : Rd := if r.now.kind = k then step t r else refuse t r 2
/-- A name of more than eight bytes. -/
def bigName (r : Rd) : Bool := decide (r.now.kind = 1) && decide (8 < r.now.text.length)
def nameSize (t : List UInt8) (r : Rd) : Rd := if bigName r = true then refuse t r 3 else r
def name (t : List UInt8) (r : Rd) (a : Nat) : Rd :=
  take t { nameSize t r with uses := r.uses ++ [⟨a, r.events.length, r.now.text, r.now.at_⟩] } 1
def bigRoles (r : Rd) (n : Nat) : Bool := decide (r.now.kind = 1) && decide (n = 4)
def rolesSize (t : List UInt8) (r : Rd) (n : Nat) : Rd := if bigRoles r n = true then refuse t r 3 else r
def rolesLoop (t : List UInt8) : Nat → Rd → List (List UInt8) → Rd × List (List UInt8)
  | 0, r, l => (r, l)
  | f + 1, r, l =>
    if r.now.kind = 7 then
      rolesLoop t f (name t (rolesSize t (step t r) l.length) 1) (l ++ [(rolesSize t (step t r) l.length).now.text])
    else (r, l)
def roles (t : List UInt8) (r : Rd) : Rd × List (List UInt8) := rolesLoop t 5 (name t r 1) [r.now.text]
theorem scan_ok (t : List UInt8) (n : Nat) (h : n ≤ t.length) : (scan t n).at_ + (scan t n).text.length ≤ t.length := by
  have hb := blankLen_le (t.drop n)
  have hl : (t.drop n).length = t.length - n := List.length_drop
  unfold scan
  generalize hk : n + blankLen (t.drop n) = k
  have hkt : k ≤ t.length := by omega
  unfold scanAt
  split
  · simp; exact hkt
  · rename_i c l hc
    have hlen : (t.drop k).length = t.length - k := List.length_drop
    split
    · unfold scanWord; simp; have := wordLen_le (t.drop k); omega
    · unfold scanSign
      split
      · rename_i h5
        have hp : (signs.getD (signOf (t.drop k)) []).isPrefixOf (t.drop k) = true := by
          have h6 := signOf_le (t.drop k)
          rcases hb2 : (signs.getD (signOf (t.drop k)) []).isPrefixOf (t.drop k) with _ | _
          · have := signOf_next _ _ (Nat.le_refl _) h5 hb2; omega
          · rfl
        rw [List.isPrefixOf_iff_prefix] at hp
        have := hp.length_le
        simp at this ⊢; omega
      · simp
        have : 0 < (t.drop k).length := by rw [hc]; simp
        omega
theorem step_ok {t : List UInt8} {r : Rd} (h : r.ok t) : (step t r).ok t := scan_ok t _ h
theorem refuse_ok {t : List UInt8} {r : Rd} (e : Nat) : (refuse t r e).ok t := by simp [Rd.ok, refuse]
theorem takeIf_ok {t : List UInt8} {r : Rd} (h : r.ok t) (k : Nat) : (takeIf t r k).ok t := by unfold takeIf; split; exact step_ok h; exact h
theorem take_ok {t : List UInt8} {r : Rd} (h : r.ok t) (k : Nat) : (take t r k).ok t := by unfold take; split; exact step_ok h; exact refuse_ok _
theorem nameSize_ok {t : List UInt8} {r : Rd} (h : r.ok t) : (nameSize t r).ok t := by unfold nameSize; split; exact refuse_ok _; exact h
theorem name_ok {t : List UInt8} {r : Rd} (h : r.ok t) (a : Nat) : (name t r a).ok t := take_ok (by exact nameSize_ok h) 1
end Dsr
namespace Dsr
/-- How an event stands at first: the reader behind it, done, in, due. -/
def markRd (t : List UInt8) (r : Rd) : Rd := takeIf t (takeIf t (takeIf t r 4) 5) 6
def markIn (r : Rd) : Bool := !decide (r.now.kind = 4)
def markDue (t : List UInt8) (r : Rd) : Bool := decide ((takeIf t r 4).now.kind = 5)
def markDone (t : List UInt8) (r : Rd) : Bool := decide ((takeIf t (takeIf t r 4) 5).now.kind = 6)
def evHead (t : List UInt8) (r : Rd) : Rd := take t (name t (take t r 2) 0) 3
def evBody (t : List UInt8) (r : Rd) : Rd := take t (markRd t (roles t (evHead t r)).1) 8
def evOf (t : List UInt8) (r : Rd) : Ev :=
  ⟨(take t r 2).now.text, (roles t (evHead t r)).2, markDone t (roles t (evHead t r)).1, markIn (roles t (evHead t r)).1, markDue t (roles t (evHead t r)).1⟩
def event (t : List UInt8) (r : Rd) : Rd :=
  if r.events.length = 10 then refuse t r 3 else { evBody t r with events := (evBody t r).events ++ [evOf t r] }
def ruHead (t : List UInt8) (r : Rd) : Rd := take t (name t r 2) 9
def ruBody (t : List UInt8) (r : Rd) : Rd := take t (name t (ruHead t r) 2) 8
def ruOf (t : List UInt8) (r : Rd) : Rl := ⟨r.now.text, (ruHead t r).now.text, (name t r 2).now.rule⟩
def rule (t : List UInt8) (r : Rd) : Rd :=
  if r.rules.length = 20 then refuse t r 3 else { ruBody t r with rules := (ruBody t r).rules ++ [ruOf t r] }
def lines (t : List UInt8) : Nat → Rd → Rd
  | 0, r => r
  | f + 1, r => if r.now.kind = 10 then r else if r.now.kind = 2 then lines t f (event t r) else if r.now.kind = 1 then lines t f (rule t r) else lines t f (refuse t r 2)
def newRd (t : List UInt8) : Rd := ⟨scan t 0, [], [], [], 0, 0⟩
/-! What the steps leave of the lists. -/
theorem refuse_events (t : List UInt8) (r : Rd) (e : Nat) : (refuse t r e).events = r.events ∧ (refuse t r e).rules = r.rules ∧ (refuse t r e).uses = r.uses ∧ (refuse t r e).now.kind = 10 := ⟨rfl, rfl, rfl, rfl⟩
theorem takeIf_lists (t : List UInt8) (r : Rd) (k : Nat) : (takeIf t r k).events = r.events ∧ (takeIf t r k).rules = r.rules ∧ (takeIf t r k).uses = r.uses := by unfold takeIf; split <;> exact ⟨rfl, rfl, rfl⟩
theorem take_lists (t : List UInt8) (r : Rd) (k : Nat) : (take t r k).events = r.events ∧ (take t r k).rules = r.rules ∧ (take t r k).uses = r.uses := by unfold take; split <;> exact ⟨rfl, rfl, rfl⟩
theorem nameSize_lists (t : List UInt8) (r : Rd) : (nameSize t r).events = r.events ∧ (nameSize t r).rules = r.rules := by unfold nameSize; split <;> exact ⟨rfl, rfl⟩
theorem name_lists (t : List UInt8) (r : Rd) (a : Nat) : (name t r a).events = r.events ∧ (name t r a).rules = r.rules ∧ (name t r a).uses.length = r.uses.length + 1 := by
  unfold name
  obtain ⟨h1, h2, h3⟩ := take_lists t { nameSize t r with uses := r.uses ++ [⟨a, r.events.length, r.now.text, r.now.at_⟩] } 1
  rw [h1, h2, h3]
  obtain ⟨g1, g2⟩ := nameSize_lists t r
  exact ⟨g1, g2, by simp⟩
theorem rolesSize_lists (t : List UInt8) (r : Rd) (n : Nat) : (rolesSize t r n).events = r.events ∧ (rolesSize t r n).rules = r.rules ∧ (rolesSize t r n).uses = r.uses := by unfold rolesSize; split <;> exact ⟨rfl, rfl, rfl⟩
theorem rolesSize_ok {t : List UInt8} {r : Rd} (h : r.ok t) (n : Nat) : (rolesSize t r n).ok t := by unfold rolesSize; split; exact refuse_ok _; exact h
/-- A name behind the text's end leaves the reader there. -/
theorem name_end {t : List UInt8} {r : Rd} (a : Nat) (h : r.now.kind ≠ 1) : (name t r a).now.kind = 10 := by
  have hb : nameSize t r = r := by unfold nameSize bigName; simp [h]
  unfold name; rw [hb]; unfold take; rw [if_neg h]; rfl
/-- At most five roles are taken: behind the fifth the reader stands at the end. -/
theorem roles_end {t : List UInt8} {r : Rd} {n : Nat} (h : n = 4) : (name t (rolesSize t r n) 1).now.kind = 10 := by
  unfold rolesSize bigRoles
  by_cases hk : r.now.kind = 1
  · simp [hk, h]; exact name_end 1 (by simp [refuse])
  · simp [hk]; exact name_end 1 hk
theorem rolesLoop_lists (t : List UInt8) : ∀ (f : Nat) (r : Rd) (l : List (List UInt8)), (rolesLoop t f r l).1.events = r.events ∧ (rolesLoop t f r l).1.rules = r.rules ∧ (rolesLoop t f r l).1.uses.length ≤ r.uses.length + f
  | 0, r, l => ⟨rfl, rfl, by simp [rolesLoop]⟩
  | f + 1, r, l => by
    unfold rolesLoop
    split
    · obtain ⟨h1, h2, h3⟩ := rolesLoop_lists t f (name t (rolesSize t (step t r) l.length) 1) (l ++ [(rolesSize t (step t r) l.length).now.text])
      obtain ⟨g1, g2, g3⟩ := name_lists t (rolesSize t (step t r) l.length) 1
      obtain ⟨k1, k2, k3⟩ := rolesSize_lists t (step t r) l.length
      rw [h1, h2, g1, g2, k1, k2]
      rw [g3, k3] at h3
      exact ⟨rfl, rfl, by have : (step t r).uses = r.uses := rfl; rw [this] at h3; omega⟩
    · exact ⟨rfl, rfl, by simp⟩
theorem rolesLoop_ok {t : List UInt8} : ∀ (f : Nat) (r : Rd) (l : List (List UInt8)), r.ok t → (rolesLoop t f r l).1.ok t
  | 0, r, l, h => h
  | f + 1, r, l, h => by
    unfold rolesLoop
    split
    · exact rolesLoop_ok f _ _ (name_ok (rolesSize_ok (step_ok h) _) 1)
    · exact h
theorem roles_ok {t : List UInt8} {r : Rd} (h : r.ok t) : (roles t r).1.ok t := rolesLoop_ok _ _ _ (name_ok h 1)
theorem roles_lists (t : List UInt8) (r : Rd) : (roles t r).1.events = r.events ∧ (roles t r).1.rules = r.rules ∧ (roles t r).1.uses.length ≤ r.uses.length + 6 := by
  obtain ⟨h1, h2, h3⟩ := rolesLoop_lists t 5 (name t r 1) [r.now.text]
  obtain ⟨g1, g2, g3⟩ := name_lists t r 1
  unfold roles
  rw [h1, h2, g1, g2]
  exact ⟨rfl, rfl, by omega⟩
theorem markRd_ok {t : List UInt8} {r : Rd} (h : r.ok t) : (markRd t r).ok t := takeIf_ok (takeIf_ok (takeIf_ok h 4) 5) 6
theorem markRd_lists (t : List UInt8) (r : Rd) : (markRd t r).events = r.events ∧ (markRd t r).rules = r.rules ∧ (markRd t r).uses = r.uses := by
  unfold markRd
  obtain ⟨a1, a2, a3⟩ := takeIf_lists t (takeIf t (takeIf t r 4) 5) 6
  obtain ⟨b1, b2, b3⟩ := takeIf_lists t (takeIf t r 4) 5
  obtain ⟨c1, c2, c3⟩ := takeIf_lists t r 4
  rw [a1, a2, a3, b1, b2, b3, c1, c2, c3]
  exact ⟨rfl, rfl, rfl⟩
end Dsr
namespace Dsr
theorem ok_events {t : List UInt8} {r : Rd} (h : r.ok t) (es : List Ev) : ({ r with events := es } : Rd).ok t := h
theorem ok_rules {t : List UInt8} {r : Rd} (h : r.ok t) (es : List Rl) : ({ r with rules := es } : Rd).ok t := h
theorem evHead_ok {t : List UInt8} {r : Rd} (h : r.ok t) : (evHead t r).ok t := take_ok (name_ok (take_ok h 2) 0) 3
theorem evHead_lists (t : List UInt8) (r : Rd) : (evHead t r).events = r.events ∧ (evHead t r).rules = r.rules ∧ (evHead t r).uses.length = r.uses.length + 1 := by
  unfold evHead
  obtain ⟨a1, a2, a3⟩ := take_lists t (name t (take t r 2) 0) 3
  obtain ⟨b1, b2, b3⟩ := name_lists t (take t r 2) 0
  obtain ⟨c1, c2, c3⟩ := take_lists t r 2
  rw [a1, a2, a3, b1, b2, b3, c1, c2, c3]
  exact ⟨rfl, rfl, rfl⟩
theorem evBody_ok {t : List UInt8} {r : Rd} (h : r.ok t) : (evBody t r).ok t := take_ok (markRd_ok (roles_ok (evHead_ok h))) 8
theorem evBody_lists (t : List UInt8) (r : Rd) : (evBody t r).events = r.events ∧ (evBody t r).rules = r.rules ∧ (evBody t r).uses.length ≤ r.uses.length + 7 := by
  unfold evBody
  obtain ⟨a1, a2, a3⟩ := take_lists t (markRd t (roles t (evHead t r)).1) 8
  obtain ⟨b1, b2, b3⟩ := markRd_lists t (roles t (evHead t r)).1
  obtain ⟨c1, c2, c3⟩ := roles_lists t (evHead t r)
  obtain ⟨d1, d2, d3⟩ := evHead_lists t r
  rw [a1, a2, a3, b1, b2, b3, c1, c2, d1, d2]
  exact ⟨rfl, rfl, by omega⟩
theorem event_ok {t : List UInt8} {r : Rd} (h : r.ok t) : (event t r).ok t := by
  unfold event; split
  · exact refuse_ok _
  · exact ok_events (evBody_ok h) _
theorem event_more (t : List UInt8) (r : Rd) (h : ¬ r.events.length = 10) : (event t r).events.length = r.events.length + 1 ∧ (event t r).rules = r.rules ∧ (event t r).uses.length ≤ r.uses.length + 7 := by
  obtain ⟨a1, a2, a3⟩ := evBody_lists t r
  unfold event; rw [if_neg h]
  generalize evBody t r = q at *
  exact ⟨by simp [a1], a2, a3⟩
theorem event_full (t : List UInt8) (r : Rd) (h : r.events.length = 10) : event t r = refuse t r 3 := by unfold event; rw [if_pos h]
theorem ruHead_ok {t : List UInt8} {r : Rd} (h : r.ok t) : (ruHead t r).ok t := take_ok (name_ok h 2) 9
theorem ruBody_ok {t : List UInt8} {r : Rd} (h : r.ok t) : (ruBody t r).ok t := take_ok (name_ok (ruHead_ok h) 2) 8
theorem ruBody_lists (t : List UInt8) (r : Rd) : (ruBody t r).events = r.events ∧ (ruBody t r).rules = r.rules ∧ (ruBody t r).uses.length = r.uses.length + 2 := by
  unfold ruBody ruHead
  obtain ⟨a1, a2, a3⟩ := take_lists t (name t (take t (name t r 2) 9) 2) 8
  obtain ⟨b1, b2, b3⟩ := name_lists t (take t (name t r 2) 9) 2
  obtain ⟨c1, c2, c3⟩ := take_lists t (name t r 2) 9
  obtain ⟨d1, d2, d3⟩ := name_lists t r 2
  rw [a1, a2, a3, b1, b2, b3, c1, c2, c3, d1, d2, d3]
  exact ⟨rfl, rfl, rfl⟩
theorem rule_ok {t : List UInt8} {r : Rd} (h : r.ok t) : (rule t r).ok t := by
  unfold rule; split
  · exact refuse_ok _
  · exact ok_rules (ruBody_ok h) _
theorem rule_more (t : List UInt8) (r : Rd) (h : ¬ r.rules.length = 20) : (rule t r).rules.length = r.rules.length + 1 ∧ (rule t r).events = r.events ∧ (rule t r).uses.length = r.uses.length + 2 := by
  obtain ⟨a1, a2, a3⟩ := ruBody_lists t r
  unfold rule; rw [if_neg h]
  generalize ruBody t r = q at *
  exact ⟨by simp [a2], a1, a3⟩
theorem rule_full (t : List UInt8) (r : Rd) (h : r.rules.length = 20) : rule t r = refuse t r 3 := by unfold rule; rw [if_pos h]
/-- So many rounds at most are to come. -/
def left (r : Rd) : Nat := 2 * (31 - r.events.length - r.rules.length) + if r.now.kind = 10 then 0 else 1
/-- What holds at each line's beginning. -/
structure Fine (t : List UInt8) (r0 : Rd) (f : Nat) (r : Rd) : Prop where
  eq : lines t f r = lines t 32 r0
  ok : r.ok t
  ev : r.events.length ≤ 10
  ru : r.rules.length ≤ 20
  us : r.uses.length ≤ 7 * r.events.length + 2 * r.rules.length
  fu : r.now.kind = 10 ∨ 31 ≤ f + r.events.length + r.rules.length
theorem lines_end (t : List UInt8) (f : Nat) (r : Rd) (h : r.now.kind = 10) : lines t f r = r := by
  cases f with
  | zero => rfl
  | succ f => unfold lines; rw [if_pos h]
theorem Fine.pos {t : List UInt8} {r0 r : Rd} {f : Nat} (h : Fine t r0 f r) (hk : ¬ r.now.kind = 10) : ∃ g, f = g + 1 := by
  rcases h.fu with h1 | h1
  · exact absurd h1 hk
  · have := h.ev; have := h.ru
    exact ⟨f - 1, by omega⟩
theorem Fine.onRefuse {t : List UInt8} {r0 r : Rd} {g : Nat} (h : Fine t r0 (g + 1) r) (e : Nat) (hk : ¬ r.now.kind = 10) (he : lines t (g + 1) r = lines t g (refuse t r e)) : Fine t r0 g (refuse t r e) ∧ left (refuse t r e) < left r :=
  ⟨⟨he.symm.trans h.eq, refuse_ok e, h.ev, h.ru, h.us, .inl rfl⟩, by
    have h1 : (Dsr.refuse t r e).events = r.events := rfl
    have h2 : (Dsr.refuse t r e).rules = r.rules := rfl
    have h3 : (Dsr.refuse t r e).now.kind = 10 := rfl
    unfold left; rw [h1, h2, h3, if_pos rfl, if_neg hk]; omega⟩
theorem Fine.onEvent {t : List UInt8} {r0 r : Rd} {g : Nat} (h : Fine t r0 (g + 1) r) (hk : r.now.kind = 2) : Fine t r0 g (event t r) ∧ left (event t r) < left r := by
  have hk' : ¬ r.now.kind = 10 := by omega
  have he : lines t (g + 1) r = lines t g (event t r) := by rw [lines, if_neg hk', if_pos hk]
  by_cases h10 : r.events.length = 10
  · rw [event_full t r h10] at he ⊢
    exact h.onRefuse 3 hk' he
  · obtain ⟨a1, a2, a3⟩ := event_more t r h10
    have := h.ev; have := h.ru; have := h.us
    refine ⟨⟨he.symm.trans h.eq, event_ok h.ok, by omega, by rw [a2]; omega, by rw [a1, a2]; omega, ?_⟩, ?_⟩
    · rcases h.fu with h1 | h1
      · exact absurd h1 hk'
      · right; rw [a1, a2]; omega
    · unfold left; rw [a1, a2, if_neg hk']; split <;> omega
theorem Fine.onRule {t : List UInt8} {r0 r : Rd} {g : Nat} (h : Fine t r0 (g + 1) r) (hk : r.now.kind = 1) : Fine t r0 g (rule t r) ∧ left (rule t r) < left r := by
  have hk' : ¬ r.now.kind = 10 := by omega
  have he : lines t (g + 1) r = lines t g (rule t r) := by rw [lines, if_neg hk', if_neg (by omega), if_pos hk]
  by_cases h20 : r.rules.length = 20
  · rw [rule_full t r h20] at he ⊢
    exact h.onRefuse 3 hk' he
  · obtain ⟨a1, a2, a3⟩ := rule_more t r h20
    have := h.ev; have := h.ru; have := h.us
    refine ⟨⟨he.symm.trans h.eq, rule_ok h.ok, by rw [a2]; omega, by omega, by rw [a1, a2]; omega, ?_⟩, ?_⟩
    · rcases h.fu with h1 | h1
      · exact absurd h1 hk'
      · right; rw [a1, a2]; omega
    · unfold left; rw [a1, a2, if_neg hk']; split <;> omega
theorem Fine.onElse {t : List UInt8} {r0 r : Rd} {g : Nat} (h : Fine t r0 (g + 1) r) (hk : ¬ r.now.kind = 10) (h2 : ¬ r.now.kind = 2) (h1 : ¬ r.now.kind = 1) : Fine t r0 g (Dsr.refuse t r 2) ∧ left (Dsr.refuse t r 2) < left r :=
  h.onRefuse 2 hk (by rw [lines, if_neg hk, if_neg h2, if_neg h1])
theorem Fine.start (t : List UInt8) (_hz : t.length ≤ 400) : Fine t (newRd t) 32 (newRd t) :=
  ⟨rfl, scan_ok t 0 (Nat.zero_le _), by simp [newRd], by simp [newRd], by simp [newRd], .inr (by simp [newRd])⟩
end Dsr
namespace Dsr
def isDef (nm : List UInt8) (u : Us) : Bool := decide (u.as_ = 0) && (u.name == nm)
def isRole (ev : Nat) (nm : List UInt8) (u : Us) : Bool := decide (u.as_ = 1) && decide (u.event = ev) && (u.name == nm)
/-- Is a name wrong at its place? -/
def isWrong (u : Us) (before all : List Us) : Bool :=
  if u.as_ = 0 then before.any (isDef u.name) else if u.as_ = 1 then before.any (isRole u.event u.name) else !all.any (isDef u.name)
/-- The first of the uses from k on that is wrong; its place. -/
def wrongFrom (us : List Us) : Nat → Nat → Option Nat
  | 0, _ => none
  | f + 1, k => match us[k]? with
    | none => none
    | some u => if isWrong u (us.take k) us then some u.at_ else wrongFrom us f (k + 1)
def wrongName (us : List Us) : Option Nat := wrongFrom us us.length 0
theorem flatLen {α β : Type} (f : α → List β) (m : Nat) (hf : ∀ a, (f a).length = m) : ∀ us : List α, (us.flatMap f).length = us.length * m
  | [] => by simp
  | a :: us => by rw [List.flatMap_cons, List.length_append, hf, flatLen f m hf us, List.length_cons, Nat.succ_mul]; omega
theorem flat4 {α β : Type} (f : α → List β) (hf : ∀ a, (f a).length = 4) : ∀ (us : List α) (k : Nat) (u : α) (j : Nat), us[k]? = some u → j < 4 → (us.flatMap f)[k * 4 + j]? = (f u)[j]?
  | [], k, u, j, h, _ => by simp at h
  | a :: us, 0, u, j, h, hj => by
    have e : a = u := by simpa using h
    subst e
    rw [List.flatMap_cons, Nat.zero_mul, Nat.zero_add, List.getElem?_append_left (by rw [hf]; exact hj)]
  | a :: us, k + 1, u, j, h, hj => by
    have h' : us[k]? = some u := by simpa using h
    rw [List.flatMap_cons, List.getElem?_append_right (by rw [hf]; omega), hf]
    have e : (k + 1) * 4 + j - 4 = k * 4 + j := by omega
    rw [e]
    exact flat4 f hf us k u j h' hj
end Dsr
/- Lines and texts. -/
namespace Dsr
def ruLine (r : Rl) : List UInt8 := r.left ++ [32] ++ signs.getD r.kind [] ++ [32] ++ r.right ++ [59, 10]
def joinC (l : List (List UInt8)) : List UInt8 := [44, 32].intercalate l
def evLine (e : Ev) : List UInt8 :=
  [101, 118, 101, 110, 116, 32] ++ e.name ++ [32, 98, 121, 32] ++ joinC e.roles ++ (if e.inn then [] else [32, 111, 117, 116]) ++ (if e.due then [32, 100, 117, 101] else []) ++ (if e.done then [32, 100, 111, 110, 101] else []) ++ [59, 10]
def text (es : List Ev) (rs : List Rl) : List UInt8 := es.flatMap evLine ++ rs.flatMap ruLine
end Dsr
namespace Dsr
theorem flatM {α β : Type} (m : Nat) (f : α → List β) (hf : ∀ a, (f a).length = m) : ∀ (us : List α) (k : Nat) (u : α) (j : Nat), us[k]? = some u → j < m → (us.flatMap f)[k * m + j]? = (f u)[j]?
  | [], k, u, j, h, _ => by simp at h
  | a :: us, 0, u, j, h, hj => by
    have e : a = u := by simpa using h
    subst e
    rw [List.flatMap_cons, Nat.zero_mul, Nat.zero_add, List.getElem?_append_left (by rw [hf]; exact hj)]
  | a :: us, k + 1, u, j, h, hj => by
    have h' : us[k]? = some u := by simpa using h
    have e1 : (k + 1) * m + j = m + (k * m + j) := by rw [Nat.succ_mul]; omega
    rw [List.flatMap_cons, e1, List.getElem?_append_right (by rw [hf]; omega), hf, Nat.add_sub_cancel_left]
    exact flatM m f hf us k u j h' hj
theorem flat_snoc {α β : Type} (f : α → List β) (us : List α) (n : Nat) (u : α) (h : us[n]? = some u) : (us.take (n + 1)).flatMap f = (us.take n).flatMap f ++ f u := by
  have hn : n < us.length := (List.getElem?_eq_some_iff.1 h).1
  rw [List.take_succ_eq_append_getElem hn, List.flatMap_append]
  have : us[n] = u := (List.getElem?_eq_some_iff.1 h).2
  simp [this]
theorem flat_take_le {α : Type} (f : α → List UInt8) (us : List α) (n : Nat) : ((us.take n).flatMap f).length ≤ (us.flatMap f).length := by
  conv => rhs; rw [← List.take_append_drop n us]
  rw [List.flatMap_append, List.length_append]; omega
end Dsr
/- Comparing byte strings. -/
namespace Dsr
def cmpB : List UInt8 → List UInt8 → Int
  | [], [] => 0
  | [], _ :: _ => -1
  | _ :: _, [] => 1
  | a :: as, b :: bs => if a < b then -1 else if b < a then 1 else cmpB as bs
theorem u8_tri (a b : UInt8) : a < b ∨ a = b ∨ b < a := by
  rcases Nat.lt_trichotomy a.toNat b.toNat with h | h | h
  · exact .inl (UInt8.lt_iff_toNat_lt.2 h)
  · exact .inr (.inl (UInt8.toNat_inj.1 h))
  · exact .inr (.inr (UInt8.lt_iff_toNat_lt.2 h))
theorem u8_irr (a : UInt8) : ¬ a < a := fun h => Nat.lt_irrefl _ (UInt8.lt_iff_toNat_lt.1 h)
theorem u8_asym {a b : UInt8} (h : a < b) : ¬ b < a := fun h' => by have := UInt8.lt_iff_toNat_lt.1 h; have := UInt8.lt_iff_toNat_lt.1 h'; omega
theorem u8_trans {a b c : UInt8} (h : a < b) (h' : b < c) : a < c := UInt8.lt_iff_toNat_lt.2 (Nat.lt_trans (UInt8.lt_iff_toNat_lt.1 h) (UInt8.lt_iff_toNat_lt.1 h'))
theorem cmpB_refl : ∀ a, cmpB a a = 0
  | [] => rfl
  | a :: as => by rw [cmpB, if_neg (u8_irr a), if_neg (u8_irr a)]; exact cmpB_refl as
theorem cmpB_eq : ∀ {a b}, cmpB a b = 0 → a = b
  | [], [], _ => rfl
  | [], _ :: _, h => by simp [cmpB] at h
  | _ :: _, [], h => by simp [cmpB] at h
  | a :: as, b :: bs, h => by
    rcases u8_tri a b with h1 | h1 | h1
    · rw [cmpB, if_pos h1] at h; omega
    · subst h1
      rw [cmpB, if_neg (u8_irr a), if_neg (u8_irr a)] at h
      rw [cmpB_eq h]
    · rw [cmpB, if_neg (u8_asym h1), if_pos h1] at h; omega
theorem cmpB_swap : ∀ a b, cmpB b a = - cmpB a b
  | [], [] => rfl
  | [], _ :: _ => rfl
  | _ :: _, [] => rfl
  | a :: as, b :: bs => by
    rcases u8_tri a b with h1 | h1 | h1
    · rw [cmpB, cmpB, if_pos h1, if_neg (u8_asym h1), if_pos h1]; rfl
    · subst h1
      rw [cmpB, cmpB, if_neg (u8_irr a), if_neg (u8_irr a), if_neg (u8_irr a), if_neg (u8_irr a)]
      exact cmpB_swap as bs
    · rw [cmpB, cmpB, if_pos h1, if_neg (u8_asym h1), if_pos h1]
theorem cmpB_trans : ∀ a b c, cmpB a b < 0 → cmpB b c < 0 → cmpB a c < 0
  | [], [], _, h, _ => by simp [cmpB] at h
  | [], _ :: _, [], _, h => by simp [cmpB] at h
  | [], _ :: _, _ :: _, _, _ => by simp [cmpB]
  | _ :: _, [], _, h, _ => by simp [cmpB] at h
  | _ :: _, _ :: _, [], _, h => by simp [cmpB] at h
  | a :: as, b :: bs, c :: cs, h, h' => by
    rcases u8_tri a b with h1 | h1 | h1
    · rcases u8_tri b c with h2 | h2 | h2
      · rw [cmpB, if_pos (u8_trans h1 h2)]; decide
      · subst h2; rw [cmpB, if_pos h1]; decide
      · rw [cmpB, if_neg (u8_asym h2), if_pos h2] at h'; omega
    · subst h1
      rw [cmpB, if_neg (u8_irr a), if_neg (u8_irr a)] at h
      rcases u8_tri a c with h2 | h2 | h2
      · rw [cmpB, if_pos h2]; decide
      · subst h2
        rw [cmpB, if_neg (u8_irr a), if_neg (u8_irr a)] at h' ⊢
        exact cmpB_trans as bs cs h h'
      · rw [cmpB, if_neg (u8_asym h2), if_pos h2] at h'; omega
    · rw [cmpB, if_neg (u8_asym h1), if_pos h1] at h; omega
/-- 'not less' goes on. -/
theorem cmpB_ntrans (a b c : List UInt8) (h : ¬ cmpB a b < 0) (h' : ¬ cmpB b c < 0) : ¬ cmpB a c < 0 := by
  intro hc
  have e1 := cmpB_swap a b
  have e2 := cmpB_swap b c
  have e3 := cmpB_swap a c
  by_cases z1 : cmpB a b = 0
  · rw [cmpB_eq z1] at hc; exact h' hc
  · by_cases z2 : cmpB b c = 0
    · rw [← cmpB_eq z2] at hc; exact h hc
    · have := cmpB_trans c b a (by omega) (by omega)
      omega
end Dsr
/- Equal neighbours once. -/
namespace Dsr
section
variable {α : Type} (eq : α → α → Bool)
def compactFrom : α → List α → List α
  | _, [] => []
  | p, y :: l => if eq y p then compactFrom p l else y :: compactFrom y l
def compact : List α → List α
  | [] => []
  | x :: l => x :: compactFrom eq x l
end
section
variable {α : Type} {eq : α → α → Bool}
theorem compactFrom_snoc (he : ∀ x y, eq x y = true ↔ x = y) : ∀ (l : List α) (p x : α), compactFrom eq p (l ++ [x]) = if eq x ((p :: l).getLast (by simp)) then compactFrom eq p l else compactFrom eq p l ++ [x]
  | [], p, x => by
    simp only [List.nil_append, compactFrom, List.getLast_singleton]
    by_cases h : eq x p = true <;> simp [h]
  | y :: l, p, x => by
    have e : (p :: y :: l).getLast (by simp) = (y :: l).getLast (by simp) := List.getLast_cons_cons
    simp only [List.cons_append, compactFrom, e]
    split
    · rename_i h
      have hy : y = p := (he y p).1 h
      subst hy
      exact compactFrom_snoc he l y x
    · rw [compactFrom_snoc he l y x]
      split <;> rfl
theorem compact_step (he : ∀ x y, eq x y = true ↔ x = y) (rs : List α) (m : Nat) (h1 : 1 ≤ m) (x y : α) (hx : rs[m]? = some x) (hy : rs[m - 1]? = some y) :
    compact eq (rs.take (m + 1)) = if eq x y then compact eq (rs.take m) else compact eq (rs.take m) ++ [x] := by
  have hm : m < rs.length := (List.getElem?_eq_some_iff.1 hx).1
  rw [List.take_succ_eq_append_getElem hm]
  have ex : rs[m] = x := (List.getElem?_eq_some_iff.1 hx).2
  rw [ex]
  rcases hl : rs.take m with _ | ⟨p, l⟩
  · have := congrArg List.length hl
    simp at this
    rcases this with h | h
    · omega
    · simp [h] at hm
  · have e : (p :: l).getLast (by simp) = y := by
      have e1 : (p :: l).getLast? = some y := by
        rw [← hl, List.getLast?_take]
        rw [if_neg (by omega), hy]; rfl
      rw [List.getLast?_eq_some_getLast (by simp)] at e1
      exact Option.some.inj e1
    rw [List.cons_append, compact, compact, compactFrom_snoc he, e]
    split <;> rfl
end
end Dsr
/- A case, as a function of its calls: no program in it. -/
set_option linter.unusedVariables false
set_option linter.unusedSimpArgs false
namespace Dsr
/-- Has the graph this rule? -/
def hasRl (rs : List Rl) (k : Nat) (a b : List UInt8) : Bool := rs.any fun r => decide (r.kind = k) && (r.left == a) && (r.right == b)
/-- What a rule of a kind does to its right event. -/
def eff (k : Nat) (e : Ev) : Ev :=
  { e with inn := if k = 3 then true else if k = 4 then false else e.inn, due := if k = 2 then true else e.due }
def finish (e : Ev) : Ev := { e with done := true, due := false }
def modN (f : Ev → Ev) (n : List UInt8) (es : List Ev) : List Ev := es.map fun e => if e.name == n then f e else e
def followS (a : List UInt8) (k : Nat) (es : List Ev) (r : Rl) : List Ev := if (r.left == a) && decide (r.kind = k) then modN (eff k) r.right es else es
def follow (rs : List Rl) (a : List UInt8) (k : Nat) (es : List Ev) : List Ev := rs.foldl (followS a k) es
def doP (rs : List Rl) (a : List UInt8) (es : List Ev) : List Ev := follow rs a 2 (follow rs a 3 (follow rs a 4 (modN finish a es)))
/-- How an event stands behind another one that is done. -/
def doneE (rs : List Rl) (a : List UInt8) (e : Ev) : Ev :=
  { e with done := e.done || (e.name == a), inn := hasRl rs 3 a e.name || (e.inn && !hasRl rs 4 a e.name), due := (e.due && !(e.name == a)) || hasRl rs 2 a e.name }
theorem eff_name (k : Nat) (e : Ev) : (eff k e).name = e.name := rfl
theorem eff_roles (k : Nat) (e : Ev) : (eff k e).roles = e.roles := rfl
theorem eff_eff (k : Nat) (e : Ev) : eff k (eff k e) = eff k e := by
  unfold eff
  by_cases h3 : k = 3
  · subst h3; simp
  · by_cases h4 : k = 4
    · subst h4; simp
    · by_cases h2 : k = 2 <;> simp [h2, h3, h4]
theorem modN_eff (k : Nat) (n : List UInt8) (es : List Ev) : modN (eff k) n es = es.map fun e => if e.name == n then eff k e else e := rfl
theorem follow_map (a : List UInt8) (k : Nat) : ∀ (rs : List Rl) (es : List Ev), follow rs a k es = es.map fun e => if hasRl rs k a e.name then eff k e else e
  | [], es => by simp [follow, hasRl]
  | r :: rs, es => by
    show follow rs a k (followS a k es r) = _
    rw [follow_map a k rs]
    unfold followS
    by_cases h : ((r.left == a) && decide (r.kind = k)) = true
    · rw [if_pos h]
      unfold modN
      rw [List.map_map]
      refine List.map_congr_left fun e _ => ?_
      have h1 : (r.left == a) = true := (Bool.and_eq_true _ _ ▸ h).1
      have h2 : decide (r.kind = k) = true := (Bool.and_eq_true _ _ ▸ h).2
      have hh : hasRl (r :: rs) k a e.name = ((r.right == e.name) || hasRl rs k a e.name) := by
        simp [hasRl, h1, h2]
      rw [hh]
      show (if hasRl rs k a (if e.name == r.right then eff k e else e).name then eff k (if e.name == r.right then eff k e else e) else (if e.name == r.right then eff k e else e)) = _
      by_cases hn : e.name = r.right
      · have x1 : (e.name == r.right) = true := by simp [hn]
        have x2 : (r.right == e.name) = true := by simp [hn]
        rw [x1, x2]
        simp only [if_true, Bool.true_or, eff_eff, eff_name]
        split <;> rfl
      · have x1 : (e.name == r.right) = false := by simp [hn]
        have x2 : (r.right == e.name) = false := by simp; exact fun h => hn h.symm
        rw [x1, x2]
        simp
    · rw [if_neg h]
      refine List.map_congr_left fun e _ => ?_
      have hh : hasRl (r :: rs) k a e.name = hasRl rs k a e.name := by
        unfold hasRl
        rw [List.any_cons]
        have : (decide (r.kind = k) && (r.left == a) && (r.right == e.name)) = false := by
          cases h1 : (r.left == a) <;> cases h2 : decide (r.kind = k) <;> simp_all
        rw [this, Bool.false_or]
      rw [hh]
theorem doP_map (rs : List Rl) (a : List UInt8) (es : List Ev) : doP rs a es = es.map (doneE rs a) := by
  unfold doP
  rw [follow_map, follow_map, follow_map]
  unfold modN
  rw [List.map_map, List.map_map, List.map_map]
  refine List.map_congr_left fun e _ => ?_
  obtain ⟨nm, ro, dn, i, du⟩ := e
  simp only [Function.comp]
  by_cases hn : nm == a
  · simp only [hn, if_true, finish]
    unfold doneE
    simp only [hn]
    cases h4 : hasRl rs 4 a nm <;> cases h3 : hasRl rs 3 a nm <;> cases h2 : hasRl rs 2 a nm <;> simp [h4, h3, h2, eff]
  · have hn' : (nm == a) = false := by simpa using hn
    simp only [hn', if_false, finish]
    unfold doneE
    simp only [hn']
    cases h4 : hasRl rs 4 a nm <;> cases h3 : hasRl rs 3 a nm <;> cases h2 : hasRl rs 2 a nm <;> simp [h4, h3, h2, eff]
/-- The events by name. -/
def findE (es : List Ev) (n : List UInt8) : Option Ev := es.find? fun e => e.name == n
/-- Does a rule block its right event, as the left one stands? -/
def hinders (k : Nat) (e : Ev) : Bool := if k = 0 then e.inn && !e.done else if k = 1 then e.inn && e.due else false
def blocksR (es : List Ev) (r : Rl) : Bool := match findE es r.left with
  | some e => hinders r.kind e
  | none => false
def blockedP (es : List Ev) (rs : List Rl) (n : List UInt8) : Bool := rs.any fun r => (r.right == n) && blocksR es r
def verdictP (es : List Ev) (rs : List Rl) (role n : List UInt8) : Nat := match findE es n with
  | none => 1
  | some e => if e.roles.contains role = false then 2 else if e.inn = false then 3 else if blockedP es rs n then 4 else 0
theorem verdictP_le (es : List Ev) (rs : List Rl) (role n : List UInt8) : verdictP es rs role n ≤ 4 := by
  unfold verdictP
  split
  · omega
  · split
    · omega
    · split
      · omega
      · split <;> omega
def enabledP (es : List Ev) (rs : List Rl) (role : List UInt8) : List (List UInt8) := (es.filter fun e => decide (verdictP es rs role e.name = 0)).map (·.name)
def acceptingP (es : List Ev) : Bool := !es.any fun e => e.inn && e.due
/-- Bytes: numbers, hashes, records. -/
def hstep (h : Nat) (c : UInt8) : Nat := (h * 1000003 + c.toNat + 1) % 4294967296
def hash (bs : List UInt8) : Nat := bs.foldl hstep 7
theorem hash_lt (bs : List UInt8) : hash bs < 4294967296 := by
  unfold hash
  rcases List.eq_nil_or_concat bs with rfl | ⟨l, c, rfl⟩
  · decide
  · rw [List.concat_eq_append, List.foldl_append]; exact Nat.mod_lt _ (by decide)
def byte (n : Nat) : UInt8 := UInt8.ofNat n
def four (n : Nat) : List UInt8 := [byte (n / 16777216), byte (n / 65536), byte (n / 256), byte n]
def sealed (b : List UInt8) : List UInt8 := b ++ four (hash b)
def headOf (t : List UInt8) : List UInt8 := [68, 49, byte (t.length / 256), byte t.length] ++ t
def recOf (num h : Nat) (role ev : List UInt8) (v : Nat) : List UInt8 := [82] ++ four num ++ four h ++ [byte role.length] ++ role ++ [byte ev.length] ++ ev ++ [byte v]
theorem sealed_len (b : List UInt8) : (sealed b).length = b.length + 4 := by simp [sealed, four]
theorem recOf_len (num h : Nat) (role ev : List UInt8) (v : Nat) : (recOf num h role ev v).length = 12 + role.length + ev.length := by simp [recOf, four]; omega
theorem headOf_len (t : List UInt8) : (headOf t).length = 4 + t.length := by simp [headOf]; omega
/-- What waits to be settled. -/
structure Wt where
  ev : List UInt8
  verdict : Nat
  num : Nat
  len : Nat
  hash : Nat
/-- A case. -/
structure Cs where
  es : List Ev
  rs : List Rl
  num : Nat
  len : Nat
  hash : Nat
  wait : Option Wt
def newCs (es : List Ev) (rs : List Rl) : Cs := ⟨es, rs, 0, (sealed (headOf (text es rs))).length, hash (headOf (text es rs)), none⟩
def recP (c : Cs) (role ev : List UInt8) : List UInt8 := recOf (c.num + 1) c.hash role ev (verdictP c.es c.rs role ev)
/-- Ask: the verdict, the bytes, the error, the case. -/
def askP (c : Cs) (role ev : List UInt8) : Nat × List UInt8 × Nat × Cs :=
  if c.wait.isSome then (0, [], 5, c)
  else if 8 < role.length ∨ 8 < ev.length then (0, [], 1, c)
  else if 2000 < c.len + (sealed (recP c role ev)).length then (0, [], 7, c)
  else (verdictP c.es c.rs role ev, sealed (recP c role ev), 0, { c with wait := some ⟨ev, verdictP c.es c.rs role ev, c.num + 1, c.len + (sealed (recP c role ev)).length, hash (recP c role ev)⟩ })
def settleP (c : Cs) : Nat × Cs := match c.wait with
  | none => (6, c)
  | some q => (0, { c with es := if q.verdict = 0 then doP c.rs q.ev c.es else c.es, num := q.num, len := q.len, hash := q.hash, wait := none })
end Dsr
/- What the reader has gathered is small. -/
namespace Dsr
structure TokOk (T : Nat) (k : Tok) : Prop where
  rule : k.rule < 5
  text : k.text.length ≤ T
structure EvOk (T : Nat) (e : Ev) : Prop where
  name : e.name.length ≤ T
  some : 0 < e.roles.length
  few : e.roles.length ≤ 6
  role : ∀ x ∈ e.roles, x.length ≤ T
structure RlOk (T : Nat) (r : Rl) : Prop where
  kind : r.kind < 5
  left : r.left.length ≤ T
  right : r.right.length ≤ T
structure RdOk (T : Nat) (r : Rd) : Prop where
  now : TokOk T r.now
  ev : ∀ e ∈ r.events, EvOk T e
  ru : ∀ e ∈ r.rules, RlOk T e
theorem scan_tok (t : List UInt8) (n : Nat) (h : n ≤ t.length) : TokOk t.length (scan t n) := by
  refine ⟨?_, by have := scan_ok t n h; omega⟩
  unfold scan
  generalize n + blankLen (t.drop n) = k
  unfold scanAt
  split
  · show (0 : Nat) < 5; decide
  · split
    · show (0 : Nat) < 5; decide
    · unfold scanSign
      split
      · assumption
      · show (0 : Nat) < 5; decide
theorem end_tok (t : List UInt8) : TokOk t.length ⟨10, 0, t.length, []⟩ := ⟨by show (0 : Nat) < 5; decide, by simp⟩
theorem refuse_rd {t : List UInt8} {r : Rd} (h : RdOk t.length r) (e : Nat) : RdOk t.length (refuse t r e) := ⟨end_tok t, h.ev, h.ru⟩
theorem step_rd {t : List UInt8} {r : Rd} (h : RdOk t.length r) (ho : r.ok t) : RdOk t.length (step t r) := ⟨scan_tok t _ ho, h.ev, h.ru⟩
theorem takeIf_rd {t : List UInt8} {r : Rd} (h : RdOk t.length r) (ho : r.ok t) (k : Nat) : RdOk t.length (takeIf t r k) := by unfold takeIf; split; exact step_rd h ho; exact h
theorem take_rd {t : List UInt8} {r : Rd} (h : RdOk t.length r) (ho : r.ok t) (k : Nat) : RdOk t.length (take t r k) := by unfold take; split; exact step_rd h ho; exact refuse_rd h _
theorem nameSize_rd {t : List UInt8} {r : Rd} (h : RdOk t.length r) : RdOk t.length (nameSize t r) := by unfold nameSize; split; exact refuse_rd h _; exact h
theorem uses_rd {T : Nat} {r : Rd} (h : RdOk T r) (us : List Us) : RdOk T { r with uses := us } := ⟨h.now, h.ev, h.ru⟩
theorem uses_ok {t : List UInt8} {r : Rd} (h : r.ok t) (us : List Us) : ({ r with uses := us } : Rd).ok t := h
theorem name_rd {t : List UInt8} {r : Rd} (h : RdOk t.length r) (ho : r.ok t) (a : Nat) : RdOk t.length (name t r a) :=
  take_rd (uses_rd (nameSize_rd h) _) (uses_ok (nameSize_ok ho) _) 1
theorem rolesSize_rd {t : List UInt8} {r : Rd} (h : RdOk t.length r) (n : Nat) : RdOk t.length (rolesSize t r n) := by unfold rolesSize; split; exact refuse_rd h _; exact h
theorem rolesLoop_rd {t : List UInt8} : ∀ (f : Nat) (r : Rd) (l : List (List UInt8)), RdOk t.length r → r.ok t → 0 < l.length → (∀ x ∈ l, x.length ≤ t.length) →
    RdOk t.length (rolesLoop t f r l).1 ∧ 0 < (rolesLoop t f r l).2.length ∧ (rolesLoop t f r l).2.length ≤ l.length + f ∧ (∀ x ∈ (rolesLoop t f r l).2, x.length ≤ t.length)
  | 0, r, l, h, ho, h0, hl => ⟨h, h0, Nat.le_refl _, hl⟩
  | f + 1, r, l, h, ho, h0, hl => by
    unfold rolesLoop
    split
    · have h1 := rolesSize_rd (step_rd h ho) l.length
      have o1 : (rolesSize t (step t r) l.length).ok t := rolesSize_ok (step_ok ho) _
      obtain ⟨a, b, c, d⟩ := rolesLoop_rd f (name t (rolesSize t (step t r) l.length) 1) (l ++ [(rolesSize t (step t r) l.length).now.text]) (name_rd h1 o1 1) (name_ok o1 1) (by simp) (by
        intro x hx
        rcases List.mem_append.1 hx with hx | hx
        · exact hl x hx
        · rw [List.mem_singleton.1 hx]; exact h1.now.text)
      refine ⟨a, b, ?_, d⟩
      rw [List.length_append, List.length_singleton] at c
      omega
    · exact ⟨h, h0, by show l.length ≤ _; omega, hl⟩
theorem roles_rd {t : List UInt8} {r : Rd} (h : RdOk t.length r) (ho : r.ok t) :
    RdOk t.length (roles t r).1 ∧ 0 < (roles t r).2.length ∧ (roles t r).2.length ≤ 6 ∧ (∀ x ∈ (roles t r).2, x.length ≤ t.length) :=
  rolesLoop_rd 5 (name t r 1) [r.now.text] (name_rd h ho 1) (name_ok ho 1) (by simp) (by intro x hx; rw [List.mem_singleton.1 hx]; exact h.now.text)
theorem markRd_rd {t : List UInt8} {r : Rd} (h : RdOk t.length r) (ho : r.ok t) : RdOk t.length (markRd t r) :=
  takeIf_rd (takeIf_rd (takeIf_rd h ho 4) (takeIf_ok ho 4) 5) (takeIf_ok (takeIf_ok ho 4) 5) 6
theorem evHead_rd {t : List UInt8} {r : Rd} (h : RdOk t.length r) (ho : r.ok t) : RdOk t.length (evHead t r) :=
  take_rd (name_rd (take_rd h ho 2) (take_ok ho 2) 0) (name_ok (take_ok ho 2) 0) 3
theorem evBody_rd {t : List UInt8} {r : Rd} (h : RdOk t.length r) (ho : r.ok t) : RdOk t.length (evBody t r) :=
  take_rd (markRd_rd (roles_rd (evHead_rd h ho) (evHead_ok ho)).1 (roles_ok (evHead_ok ho))) (markRd_ok (roles_ok (evHead_ok ho))) 8
theorem evOf_ok {t : List UInt8} {r : Rd} (h : RdOk t.length r) (ho : r.ok t) : EvOk t.length (evOf t r) := by
  obtain ⟨_, b, c, d⟩ := roles_rd (evHead_rd h ho) (evHead_ok ho)
  have a := (take_rd h ho 2).now.text
  unfold evOf
  generalize roles t (evHead t r) = q at *
  generalize take t r 2 = q2 at *
  exact ⟨a, b, c, d⟩
theorem snoc_ev {T : Nat} {r : Rd} (h : RdOk T r) {e : Ev} (he : EvOk T e) : RdOk T { r with events := r.events ++ [e] } :=
  ⟨h.now, fun x hx => by
    rcases List.mem_append.1 hx with hx | hx
    · exact h.ev x hx
    · rw [List.mem_singleton.1 hx]; exact he, h.ru⟩
theorem snoc_ru {T : Nat} {r : Rd} (h : RdOk T r) {e : Rl} (he : RlOk T e) : RdOk T { r with rules := r.rules ++ [e] } :=
  ⟨h.now, h.ev, fun x hx => by
    rcases List.mem_append.1 hx with hx | hx
    · exact h.ru x hx
    · rw [List.mem_singleton.1 hx]; exact he⟩
theorem event_rd {t : List UInt8} {r : Rd} (h : RdOk t.length r) (ho : r.ok t) : RdOk t.length (event t r) := by
  unfold event; split
  · exact refuse_rd h _
  · exact snoc_ev (evBody_rd h ho) (evOf_ok h ho)
theorem ruHead_rd {t : List UInt8} {r : Rd} (h : RdOk t.length r) (ho : r.ok t) : RdOk t.length (ruHead t r) := take_rd (name_rd h ho 2) (name_ok ho 2) 9
theorem ruBody_rd {t : List UInt8} {r : Rd} (h : RdOk t.length r) (ho : r.ok t) : RdOk t.length (ruBody t r) :=
  take_rd (name_rd (ruHead_rd h ho) (ruHead_ok ho) 2) (name_ok (ruHead_ok ho) 2) 8
theorem rule_rd {t : List UInt8} {r : Rd} (h : RdOk t.length r) (ho : r.ok t) : RdOk t.length (rule t r) := by
  unfold rule; split
  · exact refuse_rd h _
  · exact snoc_ru (ruBody_rd h ho) ⟨(name_rd h ho 2).now.rule, h.now.text, (ruHead_rd h ho).now.text⟩
theorem lines_rd {t : List UInt8} : ∀ (f : Nat) (r : Rd), RdOk t.length r → r.ok t → RdOk t.length (lines t f r)
  | 0, r, h, _ => h
  | f + 1, r, h, ho => by
    unfold lines
    split
    · exact h
    · split
      · exact lines_rd f _ (event_rd h ho) (event_ok ho)
      · split
        · exact lines_rd f _ (rule_rd h ho) (rule_ok ho)
        · exact lines_rd f _ (refuse_rd h 2) (refuse_ok 2)
theorem newRd_rd (t : List UInt8) : RdOk t.length (newRd t) := ⟨scan_tok t 0 (Nat.zero_le _), fun _ h => (by simp [newRd] at h), fun _ h => (by simp [newRd] at h)⟩
theorem newRd_ok (t : List UInt8) : (newRd t).ok t := scan_ok t 0 (Nat.zero_le _)
/-- The text, read. -/
def readR (t : List UInt8) : Rd := lines t 32 (newRd t)
theorem readR_rd (t : List UInt8) : RdOk t.length (readR t) := lines_rd 32 _ (newRd_rd t) (newRd_ok t)
/-- How many there are. -/
theorem lines_fine {t : List UInt8} {r0 : Rd} : ∀ (f : Nat) (r : Rd), Fine t r0 f r → (lines t f r).events.length ≤ 10 ∧ (lines t f r).rules.length ≤ 20 ∧ (lines t f r).uses.length ≤ 110
  | 0, r, h => by
    have := h.ev; have := h.ru; have := h.us
    exact ⟨h.ev, h.ru, by show r.uses.length ≤ 110; omega⟩
  | f + 1, r, h => by
    by_cases h10 : r.now.kind = 10
    · rw [lines_end _ _ _ h10]
      have := h.ev; have := h.ru; have := h.us
      exact ⟨h.ev, h.ru, by omega⟩
    · by_cases h2 : r.now.kind = 2
      · have e : lines t (f + 1) r = lines t f (event t r) := by rw [lines, if_neg h10, if_pos h2]
        rw [e]; exact lines_fine f _ (h.onEvent h2).1
      · by_cases h1 : r.now.kind = 1
        · have e : lines t (f + 1) r = lines t f (rule t r) := by rw [lines, if_neg h10, if_neg h2, if_pos h1]
          rw [e]; exact lines_fine f _ (h.onRule h1).1
        · have e : lines t (f + 1) r = lines t f (refuse t r 2) := by rw [lines, if_neg h10, if_neg h2, if_neg h1]
          rw [e]; exact lines_fine f _ (h.onElse h10 h2 h1).1
theorem readR_few (t : List UInt8) (ht : t.length ≤ 400) : (readR t).events.length ≤ 10 ∧ (readR t).rules.length ≤ 20 ∧ (readR t).uses.length ≤ 110 := lines_fine 32 _ (Fine.start t ht)
theorem join_len (l : List (List UInt8)) (T : Nat) (h : ∀ x ∈ l, x.length ≤ T) : (joinC l).length ≤ l.length * (T + 2) := by
  unfold joinC
  induction l with
  | nil => simp [List.intercalate]
  | cons a l ih =>
    have ha := h a (by simp)
    have ih' := ih (fun x hx => h x (by simp [hx]))
    rcases l with _ | ⟨b, l⟩
    · simp [List.intercalate]; omega
    · have e : ([44, 32] : List UInt8).intercalate (a :: b :: l) = a ++ ([44, 32] ++ ([44, 32] : List UInt8).intercalate (b :: l)) := by
        simp [List.intercalate]
      rw [e]
      simp only [List.length_append, List.length_cons, List.length_nil] at ih' ⊢
      rw [Nat.succ_mul]
      omega
end Dsr
/- The reader over a list of tokens: no program in it. -/
namespace Dsr
/-- The token behind the last one. -/
abbrev endT (n : Nat) : Tok := ⟨10, 0, n, []⟩
/-- These are the tokens of a text from a place on. -/
def Lst (t : List UInt8) : Nat → List Tok → Prop
  | n, [] => scan t n = endT t.length
  | n, k :: ts => scan t n = k ∧ Lst t (k.at_ + k.text.length) ts
abbrev QR := Rd × List Tok
def stepL (E : Tok) (q : QR) : QR := ({ q.1 with now := q.2.headD E }, q.2.tail)
def refuseL (E : Tok) (q : QR) (e : Nat) : QR := ({ q.1 with fErr := if q.1.fErr = 0 then e else q.1.fErr, fAt := if q.1.fErr = 0 then q.1.now.at_ else q.1.fAt, now := E }, [])
def takeIfL (E : Tok) (q : QR) (k : Nat) : QR := if q.1.now.kind = k then stepL E q else q
def takeL (E : Tok) (q : QR) (k : Nat) : QR := if q.1.now.kind = k then stepL E q else refuseL E q 2
def nameSizeL (E : Tok) (q : QR) : QR := if bigName q.1 = true then refuseL E q 3 else q
def useL (q : QR) (us : List Us) : QR := ({ q.1 with uses := us }, q.2)
def nameL (E : Tok) (q : QR) (a : Nat) : QR := takeL E (useL (nameSizeL E q) (q.1.uses ++ [⟨a, q.1.events.length, q.1.now.text, q.1.now.at_⟩])) 1
def rolesSizeL (E : Tok) (q : QR) (n : Nat) : QR := if bigRoles q.1 n = true then refuseL E q 3 else q
def rolesLoopL (E : Tok) : Nat → QR → List (List UInt8) → QR × List (List UInt8)
  | 0, q, l => (q, l)
  | f + 1, q, l =>
    if q.1.now.kind = 7 then
      rolesLoopL E f (nameL E (rolesSizeL E (stepL E q) l.length) 1) (l ++ [(rolesSizeL E (stepL E q) l.length).1.now.text])
    else (q, l)
def rolesL (E : Tok) (q : QR) : QR × List (List UInt8) := rolesLoopL E 5 (nameL E q 1) [q.1.now.text]
def markL (E : Tok) (q : QR) : QR := takeIfL E (takeIfL E (takeIfL E q 4) 5) 6
def evHeadL (E : Tok) (q : QR) : QR := takeL E (nameL E (takeL E q 2) 0) 3
def evBodyL (E : Tok) (q : QR) : QR := takeL E (markL E (rolesL E (evHeadL E q)).1) 8
def evOfL (E : Tok) (q : QR) : Ev :=
  ⟨(takeL E q 2).1.now.text, (rolesL E (evHeadL E q)).2, decide ((takeIfL E (takeIfL E (rolesL E (evHeadL E q)).1 4) 5).1.now.kind = 6), !decide ((rolesL E (evHeadL E q)).1.1.now.kind = 4), decide ((takeIfL E (rolesL E (evHeadL E q)).1 4).1.now.kind = 5)⟩
def eventL (E : Tok) (q : QR) : QR :=
  if q.1.events.length = 10 then refuseL E q 3 else ({ (evBodyL E q).1 with events := (evBodyL E q).1.events ++ [evOfL E q] }, (evBodyL E q).2)
def ruHeadL (E : Tok) (q : QR) : QR := takeL E (nameL E q 2) 9
def ruBodyL (E : Tok) (q : QR) : QR := takeL E (nameL E (ruHeadL E q) 2) 8
def ruOfL (E : Tok) (q : QR) : Rl := ⟨q.1.now.text, (ruHeadL E q).1.now.text, (nameL E q 2).1.now.rule⟩
def ruleL (E : Tok) (q : QR) : QR :=
  if q.1.rules.length = 20 then refuseL E q 3 else ({ (ruBodyL E q).1 with rules := (ruBodyL E q).1.rules ++ [ruOfL E q] }, (ruBodyL E q).2)
def linesL (E : Tok) : Nat → QR → QR
  | 0, q => q
  | f + 1, q => if q.1.now.kind = 10 then q else if q.1.now.kind = 2 then linesL E f (eventL E q) else if q.1.now.kind = 1 then linesL E f (ruleL E q) else linesL E f (refuseL E q 2)
def newL (E : Tok) (ts : List Tok) : QR := (⟨ts.headD E, [], [], [], 0, 0⟩, ts.tail)
def readL (E : Tok) (ts : List Tok) : Rd := (linesL E 32 (newL E ts)).1
/-- The list-reader stands where the reader does. -/
def At (t : List UInt8) (q : QR) (r : Rd) : Prop := q.1 = r ∧ Lst t (r.now.at_ + r.now.text.length) q.2
section
variable {t : List UInt8} {q : QR} {r : Rd}
theorem lst_end (t : List UInt8) : Lst t t.length [] := by
  show scan t t.length = _
  unfold scan
  rw [blankLen_end (Nat.le_refl _), Nat.add_zero, List.drop_eq_nil_of_le (Nat.le_refl _)]
  rfl
theorem At.step (h : At t q r) : At t (stepL (endT t.length) q) (step t r) := by
  obtain ⟨rfl, h⟩ := h
  obtain ⟨r, ts⟩ := q
  rcases ts with _ | ⟨k, ts⟩
  · refine ⟨?_, ?_⟩
    · show ({ r with now := endT t.length } : Rd) = { r with now := _ }
      rw [show scan t (r.now.at_ + r.now.text.length) = endT t.length from h]
    · show Lst t ((scan t (r.now.at_ + r.now.text.length)).at_ + (scan t (r.now.at_ + r.now.text.length)).text.length) []
      rw [show scan t (r.now.at_ + r.now.text.length) = endT t.length from h]
      exact lst_end t
  · obtain ⟨h1, h2⟩ := h
    refine ⟨?_, ?_⟩
    · show ({ r with now := k } : Rd) = { r with now := _ }
      rw [h1]
    · show Lst t ((scan t (r.now.at_ + r.now.text.length)).at_ + (scan t (r.now.at_ + r.now.text.length)).text.length) ts
      rw [h1]
      exact h2
theorem At.refuse (h : At t q r) (e : Nat) : At t (refuseL (endT t.length) q e) (refuse t r e) := by
  obtain ⟨rfl, h⟩ := h
  exact ⟨rfl, lst_end t⟩
theorem At.takeIf (h : At t q r) (k : Nat) : At t (takeIfL (endT t.length) q k) (takeIf t r k) := by
  have e := h.1
  unfold Dsr.takeIf takeIfL
  rw [e]
  split
  · exact h.step
  · exact h
theorem At.take (h : At t q r) (k : Nat) : At t (takeL (endT t.length) q k) (take t r k) := by
  have e := h.1
  unfold Dsr.take takeL
  rw [e]
  split
  · exact h.step
  · exact h.refuse 2
theorem At.nameSize (h : At t q r) : At t (nameSizeL (endT t.length) q) (nameSize t r) := by
  have e := h.1
  unfold Dsr.nameSize nameSizeL
  rw [e]
  split
  · exact h.refuse 3
  · exact h
theorem At.use (h : At t q r) (us : List Us) : At t (useL q us) { r with uses := us } := by
  obtain ⟨rfl, h⟩ := h
  exact ⟨rfl, h⟩
theorem At.name (h : At t q r) (a : Nat) : At t (nameL (endT t.length) q a) (name t r a) := by
  have e := h.1
  unfold Dsr.name nameL
  rw [e]
  exact (h.nameSize.use _).take 1
theorem At.rolesSize (h : At t q r) (n : Nat) : At t (rolesSizeL (endT t.length) q n) (rolesSize t r n) := by
  have e := h.1
  unfold Dsr.rolesSize rolesSizeL
  rw [e]
  split
  · exact h.refuse 3
  · exact h
end
theorem At.rolesLoop {t : List UInt8} : ∀ (f : Nat) {q : QR} {r : Rd} (l : List (List UInt8)), At t q r → At t (rolesLoopL (endT t.length) f q l).1 (rolesLoop t f r l).1 ∧ (rolesLoopL (endT t.length) f q l).2 = (rolesLoop t f r l).2
  | 0, q, r, l, h => ⟨h, rfl⟩
  | f + 1, q, r, l, h => by
    unfold Dsr.rolesLoop rolesLoopL
    rw [h.1]
    split
    · have h2 := h.step.rolesSize l.length
      have e := h2.1
      rw [e]
      exact At.rolesLoop f _ (h2.name 1)
    · exact ⟨h, rfl⟩
section
variable {t : List UInt8} {q : QR} {r : Rd}
theorem At.roles (h : At t q r) : At t (rolesL (endT t.length) q).1 (roles t r).1 ∧ (rolesL (endT t.length) q).2 = (roles t r).2 := by
  unfold Dsr.roles rolesL
  rw [h.1]
  exact At.rolesLoop 5 _ (h.name 1)
theorem At.mark (h : At t q r) : At t (markL (endT t.length) q) (markRd t r) := ((h.takeIf 4).takeIf 5).takeIf 6
theorem At.evHead (h : At t q r) : At t (evHeadL (endT t.length) q) (evHead t r) := ((h.take 2).name 0).take 3
theorem At.evBody (h : At t q r) : At t (evBodyL (endT t.length) q) (evBody t r) := h.evHead.roles.1.mark.take 8
theorem At.evOf (h : At t q r) : evOfL (endT t.length) q = evOf t r := by
  have h1 := h.evHead.roles
  unfold evOfL Dsr.evOf markDone markIn markDue
  rw [(h.take 2).1, h1.2, ((h1.1.takeIf 4).takeIf 5).1, (h1.1.takeIf 4).1, h1.1.1]
theorem At.event (h : At t q r) : At t (eventL (endT t.length) q) (event t r) := by
  unfold Dsr.event eventL
  rw [h.1]
  split
  · exact h.refuse 3
  · have hb := h.evBody
    rw [h.evOf]
    generalize evBodyL (endT t.length) q = x at *
    generalize Dsr.evBody t r = y at *
    obtain ⟨rfl, hb⟩ := hb
    exact ⟨rfl, hb⟩
theorem At.ruHead (h : At t q r) : At t (ruHeadL (endT t.length) q) (ruHead t r) := (h.name 2).take 9
theorem At.ruBody (h : At t q r) : At t (ruBodyL (endT t.length) q) (ruBody t r) := (h.ruHead.name 2).take 8
theorem At.ruOf (h : At t q r) : ruOfL (endT t.length) q = ruOf t r := by
  unfold ruOfL Dsr.ruOf
  rw [h.1, h.ruHead.1, (h.name 2).1]
theorem At.rule (h : At t q r) : At t (ruleL (endT t.length) q) (rule t r) := by
  unfold Dsr.rule ruleL
  rw [h.1]
  split
  · exact h.refuse 3
  · have hb := h.ruBody
    rw [h.ruOf]
    generalize ruBodyL (endT t.length) q = x at *
    generalize Dsr.ruBody t r = y at *
    obtain ⟨rfl, hb⟩ := hb
    exact ⟨rfl, hb⟩
end
theorem At.lines {t : List UInt8} : ∀ (f : Nat) {q : QR} {r : Rd}, At t q r → At t (linesL (endT t.length) f q) (lines t f r)
  | 0, _, _, h => h
  | f + 1, q, r, h => by
    unfold Dsr.lines linesL
    rw [h.1]
    split
    · exact h
    · split
      · exact At.lines f h.event
      · split
        · exact At.lines f h.rule
        · exact At.lines f (h.refuse 2)
/-- The reader of a text is the reader of its tokens. -/
theorem readR_eq {t : List UInt8} {ts : List Tok} (h : Lst t 0 ts) : readR t = readL (endT t.length) ts := by
  have h0 : At t (newL (endT t.length) ts) (newRd t) := by
    rcases ts with _ | ⟨k, ts⟩
    · have h : scan t 0 = endT t.length := h
      refine ⟨?_, ?_⟩
      · unfold newL newRd; rw [h]; rfl
      · unfold newRd; rw [h]; exact lst_end t
    · obtain ⟨h1, h2⟩ := h
      refine ⟨?_, ?_⟩
      · unfold newL newRd; rw [h1]; rfl
      · unfold newRd; rw [h1]; exact h2
  exact (At.lines 32 h0).1.symm
end Dsr
/- The spelt texts, as functions: no program in it. -/
namespace Dsr
/-- The lines of the graph that is spelt. -/
def LL : List (List (List UInt8)) := [
  [[101, 118, 101, 110, 116], [102, 105, 108, 101], [98, 121], [99, 108, 101, 114, 107], [44], [98, 111, 115, 115], [100, 117, 101], [59]],
  [[101, 118, 101, 110, 116], [115, 105, 103, 110], [98, 121], [98, 111, 115, 115], [111, 117, 116], [100, 111, 110, 101], [59]],
  [[102, 105, 108, 101], [45, 62, 43], [115, 105, 103, 110], [59]],
  [[102, 105, 108, 101], [45, 62, 42], [115, 105, 103, 110], [59]],
  [[115, 105, 103, 110], [42, 45, 62], [102, 105, 108, 101], [59]],
  [[102, 105, 108, 101], [45, 62, 43], [115, 105, 103, 110], [59]],
  [[115, 105, 103, 110], [45, 62, 60, 62], [115, 105, 103, 110], [59]]]
def lineAt (j : Nat) : List (List UInt8) := LL.getD j []
def tokAt (j k : Nat) : List UInt8 := (lineAt j).getD k []
/-- Does a token begin with a letter? -/
def wordB : List UInt8 → Bool
  | [] => false
  | c :: _ => letter c
structure SS where
  s : List UInt8
  at_ : Nat
  n : Nat
  word : Bool
/-- One token more: the blanks by the number of the token. -/
def spStep (g : Nat → List UInt8) (bad : Int) (st : SS) (w : List UInt8) : SS :=
  ⟨st.s ++ g st.n ++ (if st.word && wordB w then [32] else []) ++ (if (st.n : Int) = bad then [61] else []) ++ w,
   if (st.n : Int) = bad then (st.s ++ g st.n ++ (if st.word && wordB w then [32] else [])).length else st.at_,
   st.n + 1, wordB w⟩
def spLine (g : Nat → List UInt8) (bad : Int) (st : SS) (l : List (List UInt8)) : SS := l.foldl (spStep g bad) st
def spAll (g : Nat → List UInt8) (bad : Int) (turn : Nat) : Nat → SS
  | 0 => ⟨[], 0, 0, false⟩
  | i + 1 => spLine g bad (spAll g bad turn i) (lineAt ((i + turn) % 7))
/-- So many tokens, so long a text. -/
def SS.fit (st : SS) : Prop := st.s.length ≤ 9 * st.n ∧ st.at_ ≤ st.s.length
theorem step_fit {g : Nat → List UInt8} (hg : ∀ n, (g n).length ≤ 2) {bad : Int} {st : SS} {w : List UInt8} (hw : w.length ≤ 5) (h : st.fit) : (spStep g bad st w).fit := by
  have := hg st.n
  unfold SS.fit at *
  unfold spStep
  simp only [List.length_append]
  refine ⟨?_, ?_⟩
  · split <;> split <;> simp <;> omega
  · split <;> split <;> simp <;> omega
theorem line_fit {g : Nat → List UInt8} (hg : ∀ n, (g n).length ≤ 2) {bad : Int} : ∀ (l : List (List UInt8)) (st : SS), (∀ w ∈ l, w.length ≤ 5) → st.fit → (spLine g bad st l).fit ∧ (spLine g bad st l).n = st.n + l.length
  | [], st, _, h => ⟨h, rfl⟩
  | w :: l, st, hl, h => by
    have := line_fit hg (bad := bad) l (spStep g bad st w) (fun x hx => hl x (by simp [hx])) (step_fit hg (hl w (by simp)) h)
    refine ⟨this.1, this.2.trans ?_⟩
    simp [spStep]; omega
theorem line_ok : ∀ j, j < 7 → (lineAt j).length ≤ 8 ∧ 0 < (lineAt j).length ∧ ∀ w ∈ lineAt j, w.length ≤ 5 ∧ w ≠ [] := by decide
theorem all_fit {g : Nat → List UInt8} (hg : ∀ n, (g n).length ≤ 2) {bad : Int} {turn : Nat} : ∀ i, (spAll g bad turn i).fit ∧ (spAll g bad turn i).n ≤ 8 * i
  | 0 => ⟨⟨Nat.zero_le _, Nat.le_refl _⟩, Nat.le_refl _⟩
  | i + 1 => by
    have h := all_fit hg (bad := bad) (turn := turn) i
    have hj := line_ok ((i + turn) % 7) (Nat.mod_lt _ (by decide))
    have := line_fit hg (bad := bad) (lineAt ((i + turn) % 7)) _ (fun w hw => (hj.2.2 w hw).1) h.1
    refine ⟨this.1, ?_⟩
    have h2 := this.2
    show (spLine g bad (spAll g bad turn i) (lineAt ((i + turn) % 7))).n ≤ _
    omega
theorem line_snoc (g : Nat → List UInt8) (bad : Int) (st : SS) (l : List (List UInt8)) (k : Nat) (w : List UInt8) (h : l[k]? = some w) : spLine g bad st (l.take (k + 1)) = spStep g bad (spLine g bad st (l.take k)) w := by
  unfold spLine
  have hk : k < l.length := by
    rcases Nat.lt_or_ge k l.length with hk | hk
    · exact hk
    · rw [List.getElem?_eq_none hk] at h; cases h
  rw [List.getElem?_eq_getElem hk] at h
  cases h
  rw [List.take_succ_eq_append_getElem hk, List.foldl_append]
  rfl
end Dsr
