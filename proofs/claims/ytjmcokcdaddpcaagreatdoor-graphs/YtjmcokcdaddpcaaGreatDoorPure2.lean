import Derived.Test.YtjmcokcdaddpcaaGreatDoorPure
/- The reader, as a function: no program in it. -/
namespace Dsr
structure Ev where
  name : List UInt8
  roles : List (List UInt8)
  done : Bool
  inn : Bool
  due : Bool
structure Rl where
  left : List UInt8
  right : List UInt8
  kind : Nat
structure Us where
  as_ : Nat
  event : Nat
  name : List UInt8
  at_ : Nat
structure Rd where
  now : Tok
  events : List Ev
  rules : List Rl
  uses : List Us
  fErr : Nat
  fAt : Nat
/-- The reader is within its text. -/
def Rd.ok (t : List UInt8) (r : Rd) : Prop := r.now.at_ + r.now.text.length ≤ t.length
def refuse (t : List UInt8) (r : Rd) (e : Nat) : Rd :=
  { r with fErr := if r.fErr = 0 then e else r.fErr, fAt := if r.fErr = 0 then r.now.at_ else r.fAt, now := ⟨10, 0, t.length, []⟩ }
def step (t : List UInt8) (r : Rd) : Rd := { r with now := scan t (r.now.at_ + r.now.text.length) }
def takeIf (t : List UInt8) (r : Rd) (k : Nat) : Rd := if r.now.kind = k then step t r else r
def take (t : List UInt8) (r : Rd) (k : Nat) : Rd := if r.now.kind = k then step t r else refuse t r 2
/-- A name of more than eight bytes. -/
def bigName (r : Rd) : Bool := decide (r.now.kind = 1) && decide (8 < r.now.text.length)
def nameSize (t : List UInt8) (r : Rd) : Rd := if bigName r = true then refuse t r 3 else r
def name (t : List UInt8) (r : Rd) (a : Nat) : Rd :=
  take t { nameSize t r with uses := r.uses ++ [⟨a, r.events.length, r.now.text, r.now.at_⟩] } 1
def bigRoles (r : Rd) (n : Nat) : Bool := decide (r.now.kind = 1) && decide (n = 4)
def rolesSize (t : List UInt8) (r : Rd) (n : Nat) : Rd := if bigRoles r n = true then refuse t r 3 else r
def rolesLoop (t : List UInt8) : Nat → Rd → List (List UInt8) → Rd × List (List UInt8)
  | 0, r, l => (r, l)
  | f + 1, r, l =>
    if r.now.kind = 7 then
      rolesLoop t f (name t (rolesSize t (step t r) l.length) 1) (l ++ [(rolesSize t (step t r) l.length).now.text])
    else (r, l)
def roles (t : List UInt8) (r : Rd) : Rd × List (List UInt8) := rolesLoop t 5 (name t r 1) [r.now.text]
theorem scan_ok (t : List UInt8) (n : Nat) (h : n ≤ t.length) : (scan t n).at_ + (scan t n).text.length ≤ t.length := by
  have hb := blankLen_le (t.drop n)
  have hl : (t.drop n).length = t.length - n := List.length_drop
  unfold scan
  generalize hk : n + blankLen (t.drop n) = k
  have hkt : k ≤ t.length := by omega
  unfold scanAt
  split
  · simp; exact hkt
  · rename_i c l hc
    have hlen : (t.drop k).length = t.length - k := List.length_drop
    split
    · unfold scanWord; simp; have := wordLen_le (t.drop k); omega
    · unfold scanSign
      split
      · rename_i h5
        have hp : (signs.getD (signOf (t.drop k)) []).isPrefixOf (t.drop k) = true := by
          have h6 := signOf_le (t.drop k)
          rcases hb2 : (signs.getD (signOf (t.drop k)) []).isPrefixOf (t.drop k) with _ | _
          · have := signOf_next _ _ (Nat.le_refl _) h5 hb2; omega
          · rfl
        rw [List.isPrefixOf_iff_prefix] at hp
        have := hp.length_le
        simp at this ⊢; omega
      · simp
        have : 0 < (t.drop k).length := by rw [hc]; simp
        omega
theorem step_ok {t : List UInt8} {r : Rd} (h : r.ok t) : (step t r).ok t := scan_ok t _ h
theorem refuse_ok {t : List UInt8} {r : Rd} (e : Nat) : (refuse t r e).ok t := by simp [Rd.ok, refuse]
theorem takeIf_ok {t : List UInt8} {r : Rd} (h : r.ok t) (k : Nat) : (takeIf t r k).ok t := by unfold takeIf; split; exact step_ok h; exact h
theorem take_ok {t : List UInt8} {r : Rd} (h : r.ok t) (k : Nat) : (take t r k).ok t := by unfold take; split; exact step_ok h; exact refuse_ok _
theorem nameSize_ok {t : List UInt8} {r : Rd} (h : r.ok t) : (nameSize t r).ok t := by unfold nameSize; split; exact refuse_ok _; exact h
theorem name_ok {t : List UInt8} {r : Rd} (h : r.ok t) (a : Nat) : (name t r a).ok t := take_ok (by exact nameSize_ok h) 1
end Dsr
