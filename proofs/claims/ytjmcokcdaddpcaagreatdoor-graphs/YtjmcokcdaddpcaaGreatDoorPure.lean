/- THE PLAIN MATHEMATICS of the graph texts: no program in it. -/
namespace Dsr
/-- A blank, a letter, a digit. -/
def blank (c : UInt8) : Bool := c.toNat == 32 || c.toNat == 9 || c.toNat == 10
def letter (c : UInt8) : Bool := decide (97 ≤ c.toNat) && decide (c.toNat ≤ 122)
def digit (c : UInt8) : Bool := decide (48 ≤ c.toNat) && decide (c.toNat ≤ 57)
def wordy (c : UInt8) : Bool := letter c || digit c
/-- The kind of a word: 1 a name, 2 event, 3 by, 4 out, 5 due, 6 done. -/
def wordKind (l : List UInt8) : Nat :=
  if l == [101, 118, 101, 110, 116] then 2 else if l == [98, 121] then 3 else if l == [111, 117, 116] then 4 else if l == [100, 117, 101] then 5 else if l == [100, 111, 110, 101] then 6 else 1
/-- A token: its kind, which rule (of a sign alone), where it begins, its text. -/
structure Tok where
  kind : Nat
  rule : Nat
  at_ : Nat
  text : List UInt8
/-- How many wordy bytes a list begins with. -/
def wordLen : List UInt8 → Nat
  | [] => 0
  | c :: l => if wordy c then wordLen l + 1 else 0
theorem wordLen_le : ∀ l, wordLen l ≤ l.length
  | [] => Nat.le_refl _
  | c :: l => by unfold wordLen; split <;> simp; exact wordLen_le l
def blankLen : List UInt8 → Nat
  | [] => 0
  | c :: l => if blank c then blankLen l + 1 else 0
theorem blankLen_le : ∀ l, blankLen l ≤ l.length
  | [] => Nat.le_refl _
  | c :: l => by unfold blankLen; split <;> simp; exact blankLen_le l
def signs : List (List UInt8) := [[45, 62, 42], [45, 62, 60, 62], [42, 45, 62], [45, 62, 43], [45, 62, 37]]
def pick5 (a b c d e : Bool) : Nat := if a then 0 else if b then 1 else if c then 2 else if d then 3 else if e then 4 else 5
/-- Which of the five signs a list begins with (from 0 on; 5: none). -/
def signOf (l : List UInt8) : Nat :=
  pick5 ([45, 62, 42].isPrefixOf l) ([45, 62, 60, 62].isPrefixOf l) ([42, 45, 62].isPrefixOf l) ([45, 62, 43].isPrefixOf l) ([45, 62, 37].isPrefixOf l)
theorem pick5_le : ∀ a b c d e : Bool, pick5 a b c d e ≤ 5 := by decide
theorem pick5_next : ∀ a b c d e : Bool, ∀ k : Fin 5, k.val ≤ pick5 a b c d e → [a, b, c, d, e].getD k.val false = false → k.val + 1 ≤ pick5 a b c d e := by decide
theorem pick5_here : ∀ a b c d e : Bool, ∀ k : Fin 5, k.val ≤ pick5 a b c d e → [a, b, c, d, e].getD k.val false = true → pick5 a b c d e = k.val := by decide
theorem signs_at (l : List UInt8) (k : Nat) (hk : k < 5) : (signs.getD k []).isPrefixOf l = [[45, 62, 42].isPrefixOf l, [45, 62, 60, 62].isPrefixOf l, [42, 45, 62].isPrefixOf l, [45, 62, 43].isPrefixOf l, [45, 62, 37].isPrefixOf l].getD k false := by
  rcases k with _ | _ | _ | _ | _ | k
  · rfl
  · rfl
  · rfl
  · rfl
  · rfl
  · omega
theorem signOf_le (l : List UInt8) : signOf l ≤ 5 := pick5_le _ _ _ _ _
theorem signOf_next (l : List UInt8) (k : Nat) (h : k ≤ signOf l) (hk : k < 5) (hb : (signs.getD k []).isPrefixOf l = false) : k + 1 ≤ signOf l :=
  pick5_next _ _ _ _ _ ⟨k, hk⟩ h ((signs_at l k hk).symm.trans hb)
theorem signOf_here (l : List UInt8) (k : Nat) (h : k ≤ signOf l) (hk : k < 5) (hb : (signs.getD k []).isPrefixOf l = true) : signOf l = k :=
  pick5_here _ _ _ _ _ ⟨k, hk⟩ h ((signs_at l k hk).symm.trans hb)
/-- The token at the head of a list that begins at a place. -/
def scanWord (l : List UInt8) (at_ : Nat) : Tok := ⟨wordKind (l.take (wordLen l)), 0, at_, l.take (wordLen l)⟩
def oneKind (l : List UInt8) : Nat := if l == [44] then 7 else if l == [59] then 8 else 0
def scanSign (l : List UInt8) (at_ : Nat) : Tok :=
  if signOf l < 5 then ⟨9, signOf l, at_, signs.getD (signOf l) []⟩ else ⟨oneKind (l.take 1), 0, at_, l.take 1⟩
def scanAt (l : List UInt8) (at_ : Nat) : Tok :=
  match l with
  | [] => ⟨10, 0, at_, []⟩
  | c :: _ => if letter c then scanWord l at_ else scanSign l at_
/-- The first token of a text at a place or behind it. -/
def scan (t : List UInt8) (from_ : Nat) : Tok :=
  scanAt (t.drop (from_ + blankLen (t.drop from_))) (from_ + blankLen (t.drop from_))
theorem blankLen_step {t : List UInt8} {k : Nat} {c : UInt8} (h : t[k]? = some c) : blankLen (t.drop k) = if blank c then blankLen (t.drop (k + 1)) + 1 else 0 := by
  have hk : k < t.length := by
    rcases Nat.lt_or_ge k t.length with hk | hk
    · exact hk
    · rw [List.getElem?_eq_none hk] at h; cases h
  rw [List.drop_eq_getElem_cons hk]
  rw [List.getElem?_eq_getElem hk] at h
  cases h
  rfl
theorem blankLen_end {t : List UInt8} {k : Nat} (h : t.length ≤ k) : blankLen (t.drop k) = 0 := by rw [List.drop_eq_nil_of_le h]; rfl
theorem wordLen_step {t : List UInt8} {k : Nat} {c : UInt8} (h : t[k]? = some c) : wordLen (t.drop k) = if wordy c then wordLen (t.drop (k + 1)) + 1 else 0 := by
  have hk : k < t.length := by
    rcases Nat.lt_or_ge k t.length with hk | hk
    · exact hk
    · rw [List.getElem?_eq_none hk] at h; cases h
  rw [List.drop_eq_getElem_cons hk]
  rw [List.getElem?_eq_getElem hk] at h
  cases h
  rfl
theorem wordLen_end {t : List UInt8} {k : Nat} (h : t.length ≤ k) : wordLen (t.drop k) = 0 := by rw [List.drop_eq_nil_of_le h]; rfl
end Dsr
