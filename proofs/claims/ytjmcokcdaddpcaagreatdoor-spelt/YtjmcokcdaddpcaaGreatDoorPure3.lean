import Derived.Test.YtjmcokcdaddpcaaGreatDoorPure2
namespace Dsr
/-- How an event stands at first: the reader behind it, done, in, due. -/
def markRd (t : List UInt8) (r : Rd) : Rd := takeIf t (takeIf t (takeIf t r 4) 5) 6
def markIn (r : Rd) : Bool := !decide (r.now.kind = 4)
def markDue (t : List UInt8) (r : Rd) : Bool := decide ((takeIf t r 4).now.kind = 5)
def markDone (t : List UInt8) (r : Rd) : Bool := decide ((takeIf t (takeIf t r 4) 5).now.kind = 6)
def evHead (t : List UInt8) (r : Rd) : Rd := take t (name t (take t r 2) 0) 3
def evBody (t : List UInt8) (r : Rd) : Rd := take t (markRd t (roles t (evHead t r)).1) 8
def evOf (t : List UInt8) (r : Rd) : Ev :=
  ⟨(take t r 2).now.text, (roles t (evHead t r)).2, markDone t (roles t (evHead t r)).1, markIn (roles t (evHead t r)).1, markDue t (roles t (evHead t r)).1⟩
def event (t : List UInt8) (r : Rd) : Rd :=
  if r.events.length = 10 then refuse t r 3 else { evBody t r with events := (evBody t r).events ++ [evOf t r] }
def ruHead (t : List UInt8) (r : Rd) : Rd := take t (name t r 2) 9
def ruBody (t : List UInt8) (r : Rd) : Rd := take t (name t (ruHead t r) 2) 8
def ruOf (t : List UInt8) (r : Rd) : Rl := ⟨r.now.text, (ruHead t r).now.text, (name t r 2).now.rule⟩
def rule (t : List UInt8) (r : Rd) : Rd :=
  if r.rules.length = 20 then refuse t r 3 else { ruBody t r with rules := (ruBody t r).rules ++ [ruOf t r] }
def lines (t : List UInt8) : Nat → Rd → Rd
  | 0, r => r
  | f + 1, r => if r.now.kind = 10 then r else if r.now.kind = 2 then lines t f (event t r) else if r.now.kind = 1 then lines t f (rule t r) else lines t f (refuse t r 2)
def newRd (t : List UInt8) : Rd := ⟨scan t 0, [], [], [], 0, 0⟩
/-! What the steps leave of the lists. -/
theorem refuse_events (t : List UInt8) (r : Rd) (e : Nat) : (refuse t r e).events = r.events ∧ (refuse t r e).rules = r.rules ∧ (refuse t r e).uses = r.uses ∧ (refuse t r e).now.kind = 10 := ⟨rfl, rfl, rfl, rfl⟩
theorem takeIf_lists (t : List UInt8) (r : Rd) (k : Nat) : (takeIf t r k).events = r.events ∧ (takeIf t r k).rules = r.rules ∧ (takeIf t r k).uses = r.uses := by unfold takeIf; split <;> exact ⟨rfl, rfl, rfl⟩
theorem take_lists (t : List UInt8) (r : Rd) (k : Nat) : (take t r k).events = r.events ∧ (take t r k).rules = r.rules ∧ (take t r k).uses = r.uses := by unfold take; split <;> exact ⟨rfl, rfl, rfl⟩
theorem nameSize_lists (t : List UInt8) (r : Rd) : (nameSize t r).events = r.events ∧ (nameSize t r).rules = r.rules := by unfold nameSize; split <;> exact ⟨rfl, rfl⟩
theorem name_lists (t : List UInt8) (r : Rd) (a : Nat) : (name t r a).events = r.events ∧ (name t r a).rules = r.rules ∧ (name t r a).uses.length = r.uses.length + 1 := by
  unfold name
  obtain ⟨h1, h2, h3⟩ := take_lists t { nameSize t r with uses := r.uses ++ [⟨a, r.events.length, r.now.text, r.now.at_⟩] } 1
  rw [h1, h2, h3]
  obtain ⟨g1, g2⟩ := nameSize_lists t r
  exact ⟨g1, g2, by simp⟩
theorem rolesSize_lists (t : List UInt8) (r : Rd) (n : Nat) : (rolesSize t r n).events = r.events ∧ (rolesSize t r n).rules = r.rules ∧ (rolesSize t r n).uses = r.uses := by unfold rolesSize; split <;> exact ⟨rfl, rfl, rfl⟩
theorem rolesSize_ok {t : List UInt8} {r : Rd} (h : r.ok t) (n : Nat) : (rolesSize t r n).ok t := by unfold rolesSize; split; exact refuse_ok _; exact h
/-- A name behind the text's end leaves the reader there. -/
theorem name_end {t : List UInt8} {r : Rd} (a : Nat) (h : r.now.kind ≠ 1) : (name t r a).now.kind = 10 := by
  have hb : nameSize t r = r := by unfold nameSize bigName; simp [h]
  unfold name; rw [hb]; unfold take; rw [if_neg h]; rfl
/-- At most five roles are taken: behind the fifth the reader stands at the end. -/
theorem roles_end {t : List UInt8} {r : Rd} {n : Nat} (h : n = 4) : (name t (rolesSize t r n) 1).now.kind = 10 := by
  unfold rolesSize bigRoles
  by_cases hk : r.now.kind = 1
  · simp [hk, h]; exact name_end 1 (by simp [refuse])
  · simp [hk]; exact name_end 1 hk
theorem rolesLoop_lists (t : List UInt8) : ∀ (f : Nat) (r : Rd) (l : List (List UInt8)), (rolesLoop t f r l).1.events = r.events ∧ (rolesLoop t f r l).1.rules = r.rules ∧ (rolesLoop t f r l).1.uses.length ≤ r.uses.length + f
  | 0, r, l => ⟨rfl, rfl, by simp [rolesLoop]⟩
  | f + 1, r, l => by
    unfold rolesLoop
    split
    · obtain ⟨h1, h2, h3⟩ := rolesLoop_lists t f (name t (rolesSize t (step t r) l.length) 1) (l ++ [(rolesSize t (step t r) l.length).now.text])
      obtain ⟨g1, g2, g3⟩ := name_lists t (rolesSize t (step t r) l.length) 1
      obtain ⟨k1, k2, k3⟩ := rolesSize_lists t (step t r) l.length
      rw [h1, h2, g1, g2, k1, k2]
      rw [g3, k3] at h3
      exact ⟨rfl, rfl, by have : (step t r).uses = r.uses := rfl; rw [this] at h3; omega⟩
    · exact ⟨rfl, rfl, by simp⟩
theorem rolesLoop_ok {t : List UInt8} : ∀ (f : Nat) (r : Rd) (l : List (List UInt8)), r.ok t → (rolesLoop t f r l).1.ok t
  | 0, r, l, h => h
  | f + 1, r, l, h => by
    unfold rolesLoop
    split
    · exact rolesLoop_ok f _ _ (name_ok (rolesSize_ok (step_ok h) _) 1)
    · exact h
theorem roles_ok {t : List UInt8} {r : Rd} (h : r.ok t) : (roles t r).1.ok t := rolesLoop_ok _ _ _ (name_ok h 1)
theorem roles_lists (t : List UInt8) (r : Rd) : (roles t r).1.events = r.events ∧ (roles t r).1.rules = r.rules ∧ (roles t r).1.uses.length ≤ r.uses.length + 6 := by
  obtain ⟨h1, h2, h3⟩ := rolesLoop_lists t 5 (name t r 1) [r.now.text]
  obtain ⟨g1, g2, g3⟩ := name_lists t r 1
  unfold roles
  rw [h1, h2, g1, g2]
  exact ⟨rfl, rfl, by omega⟩
theorem markRd_ok {t : List UInt8} {r : Rd} (h : r.ok t) : (markRd t r).ok t := takeIf_ok (takeIf_ok (takeIf_ok h 4) 5) 6
theorem markRd_lists (t : List UInt8) (r : Rd) : (markRd t r).events = r.events ∧ (markRd t r).rules = r.rules ∧ (markRd t r).uses = r.uses := by
  unfold markRd
  obtain ⟨a1, a2, a3⟩ := takeIf_lists t (takeIf t (takeIf t r 4) 5) 6
  obtain ⟨b1, b2, b3⟩ := takeIf_lists t (takeIf t r 4) 5
  obtain ⟨c1, c2, c3⟩ := takeIf_lists t r 4
  rw [a1, a2, a3, b1, b2, b3, c1, c2, c3]
  exact ⟨rfl, rfl, rfl⟩
end Dsr
