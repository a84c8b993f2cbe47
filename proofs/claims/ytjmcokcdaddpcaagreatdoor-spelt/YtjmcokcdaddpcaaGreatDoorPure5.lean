import Derived.Test.YtjmcokcdaddpcaaGreatDoorPure4
namespace Dsr
def isDef (nm : List UInt8) (u : Us) : Bool := decide (u.as_ = 0) && (u.name == nm)
def isRole (ev : Nat) (nm : List UInt8) (u : Us) : Bool := decide (u.as_ = 1) && decide (u.event = ev) && (u.name == nm)
/-- Is a name wrong at its place? -/
def isWrong (u : Us) (before all : List Us) : Bool :=
  if u.as_ = 0 then before.any (isDef u.name) else if u.as_ = 1 then before.any (isRole u.event u.name) else !all.any (isDef u.name)
/-- The first of the uses from k on that is wrong; its place. -/
def wrongFrom (us : List Us) : Nat → Nat → Option Nat
  | 0, _ => none
  | f + 1, k => match us[k]? with
    | none => none
    | some u => if isWrong u (us.take k) us then some u.at_ else wrongFrom us f (k + 1)
def wrongName (us : List Us) : Option Nat := wrongFrom us us.length 0
theorem flatLen {α β : Type} (f : α → List β) (m : Nat) (hf : ∀ a, (f a).length = m) : ∀ us : List α, (us.flatMap f).length = us.length * m
  | [] => by simp
  | a :: us => by rw [List.flatMap_cons, List.length_append, hf, flatLen f m hf us, List.length_cons, Nat.succ_mul]; omega
theorem flat4 {α β : Type} (f : α → List β) (hf : ∀ a, (f a).length = 4) : ∀ (us : List α) (k : Nat) (u : α) (j : Nat), us[k]? = some u → j < 4 → (us.flatMap f)[k * 4 + j]? = (f u)[j]?
  | [], k, u, j, h, _ => by simp at h
  | a :: us, 0, u, j, h, hj => by
    have e : a = u := by simpa using h
    subst e
    rw [List.flatMap_cons, Nat.zero_mul, Nat.zero_add, List.getElem?_append_left (by rw [hf]; exact hj)]
  | a :: us, k + 1, u, j, h, hj => by
    have h' : us[k]? = some u := by simpa using h
    rw [List.flatMap_cons, List.getElem?_append_right (by rw [hf]; omega), hf]
    have e : (k + 1) * 4 + j - 4 = k * 4 + j := by omega
    rw [e]
    exact flat4 f hf us k u j h' hj
end Dsr
/- Lines and texts. -/
namespace Dsr
def ruLine (r : Rl) : List UInt8 := r.left ++ [32] ++ signs.getD r.kind [] ++ [32] ++ r.right ++ [59, 10]
def joinC (l : List (List UInt8)) : List UInt8 := [44, 32].intercalate l
def evLine (e : Ev) : List UInt8 :=
  [101, 118, 101, 110, 116, 32] ++ e.name ++ [32, 98, 121, 32] ++ joinC e.roles ++ (if e.inn then [] else [32, 111, 117, 116]) ++ (if e.due then [32, 100, 117, 101] else []) ++ (if e.done then [32, 100, 111, 110, 101] else []) ++ [59, 10]
def text (es : List Ev) (rs : List Rl) : List UInt8 := es.flatMap evLine ++ rs.flatMap ruLine
end Dsr
namespace Dsr
theorem flatM {α β : Type} (m : Nat) (f : α → List β) (hf : ∀ a, (f a).length = m) : ∀ (us : List α) (k : Nat) (u : α) (j : Nat), us[k]? = some u → j < m → (us.flatMap f)[k * m + j]? = (f u)[j]?
  | [], k, u, j, h, _ => by simp at h
  | a :: us, 0, u, j, h, hj => by
    have e : a = u := by simpa using h
    subst e
    rw [List.flatMap_cons, Nat.zero_mul, Nat.zero_add, List.getElem?_append_left (by rw [hf]; exact hj)]
  | a :: us, k + 1, u, j, h, hj => by
    have h' : us[k]? = some u := by simpa using h
    have e1 : (k + 1) * m + j = m + (k * m + j) := by rw [Nat.succ_mul]; omega
    rw [List.flatMap_cons, e1, List.getElem?_append_right (by rw [hf]; omega), hf, Nat.add_sub_cancel_left]
    exact flatM m f hf us k u j h' hj
theorem flat_snoc {α β : Type} (f : α → List β) (us : List α) (n : Nat) (u : α) (h : us[n]? = some u) : (us.take (n + 1)).flatMap f = (us.take n).flatMap f ++ f u := by
  have hn : n < us.length := (List.getElem?_eq_some_iff.1 h).1
  rw [List.take_succ_eq_append_getElem hn, List.flatMap_append]
  have : us[n] = u := (List.getElem?_eq_some_iff.1 h).2
  simp [this]
theorem flat_take_le {α : Type} (f : α → List UInt8) (us : List α) (n : Nat) : ((us.take n).flatMap f).length ≤ (us.flatMap f).length := by
  conv => rhs; rw [← List.take_append_drop n us]
  rw [List.flatMap_append, List.length_append]; omega
end Dsr
/- Comparing byte strings. -/
namespace Dsr
def cmpB : List UInt8 → List UInt8 → Int
  | [], [] => 0
  | [], _ :: _ => -1
  | _ :: _, [] => 1
  | a :: as, b :: bs => if a < b then -1 else if b < a then 1 else cmpB as bs
theorem u8_tri (a b : UInt8) : a < b ∨ a = b ∨ b < a := by
  rcases Nat.lt_trichotomy a.toNat b.toNat with h | h | h
  · exact .inl (UInt8.lt_iff_toNat_lt.2 h)
  · exact .inr (.inl (UInt8.toNat_inj.1 h))
  · exact .inr (.inr (UInt8.lt_iff_toNat_lt.2 h))
theorem u8_irr (a : UInt8) : ¬ a < a := fun h => Nat.lt_irrefl _ (UInt8.lt_iff_toNat_lt.1 h)
theorem u8_asym {a b : UInt8} (h : a < b) : ¬ b < a := fun h' => by have := UInt8.lt_iff_toNat_lt.1 h; have := UInt8.lt_iff_toNat_lt.1 h'; omega
theorem u8_trans {a b c : UInt8} (h : a < b) (h' : b < c) : a < c := UInt8.lt_iff_toNat_lt.2 (Nat.lt_trans (UInt8.lt_iff_toNat_lt.1 h) (UInt8.lt_iff_toNat_lt.1 h'))
theorem cmpB_refl : ∀ a, cmpB a a = 0
  | [] => rfl
  | a :: as => by rw [cmpB, if_neg (u8_irr a), if_neg (u8_irr a)]; exact cmpB_refl as
theorem cmpB_eq : ∀ {a b}, cmpB a b = 0 → a = b
  | [], [], _ => rfl
  | [], _ :: _, h => by simp [cmpB] at h
  | _ :: _, [], h => by simp [cmpB] at h
  | a :: as, b :: bs, h => by
    rcases u8_tri a b with h1 | h1 | h1
    · rw [cmpB, if_pos h1] at h; omega
    · subst h1
      rw [cmpB, if_neg (u8_irr a), if_neg (u8_irr a)] at h
      rw [cmpB_eq h]
    · rw [cmpB, if_neg (u8_asym h1), if_pos h1] at h; omega
theorem cmpB_swap : ∀ a b, cmpB b a = - cmpB a b
  | [], [] => rfl
  | [], _ :: _ => rfl
  | _ :: _, [] => rfl
  | a :: as, b :: bs => by
    rcases u8_tri a b with h1 | h1 | h1
    · rw [cmpB, cmpB, if_pos h1, if_neg (u8_asym h1), if_pos h1]; rfl
    · subst h1
      rw [cmpB, cmpB, if_neg (u8_irr a), if_neg (u8_irr a), if_neg (u8_irr a), if_neg (u8_irr a)]
      exact cmpB_swap as bs
    · rw [cmpB, cmpB, if_pos h1, if_neg (u8_asym h1), if_pos h1]
theorem cmpB_trans : ∀ a b c, cmpB a b < 0 → cmpB b c < 0 → cmpB a c < 0
  | [], [], _, h, _ => by simp [cmpB] at h
  | [], _ :: _, [], _, h => by simp [cmpB] at h
  | [], _ :: _, _ :: _, _, _ => by simp [cmpB]
  | _ :: _, [], _, h, _ => by simp [cmpB] at h
  | _ :: _, _ :: _, [], _, h => by simp [cmpB] at h
  | a :: as, b :: bs, c :: cs, h, h' => by
    rcases u8_tri a b with h1 | h1 | h1
    · rcases u8_tri b c with h2 | h2 | h2
      · rw [cmpB, if_pos (u8_trans h1 h2)]; decide
      · subst h2; rw [cmpB, if_pos h1]; decide
      · rw [cmpB, if_neg (u8_asym h2), if_pos h2] at h'; omega
    · subst h1
      rw [cmpB, if_neg (u8_irr a), if_neg (u8_irr a)] at h
      rcases u8_tri a c with h2 | h2 | h2
      · rw [cmpB, if_pos h2]; decide
      · subst h2
        rw [cmpB, if_neg (u8_irr a), if_neg (u8_irr a)] at h' ⊢
        exact cmpB_trans as bs cs h h'
      · rw [cmpB, if_neg (u8_asym h2), if_pos h2] at h'; omega
    · rw [cmpB, if_neg (u8_asym h1), if_pos h1] at h; omega
/-- 'not less' goes on. -/
theorem cmpB_ntrans (a b c : List UInt8) (h : ¬ cmpB a b < 0) (h' : ¬ cmpB b c < 0) : ¬ cmpB a c < 0 := by
  intro hc
  have e1 := cmpB_swap a b
  have e2 := cmpB_swap b c
  have e3 := cmpB_swap a c
  by_cases z1 : cmpB a b = 0
  · rw [cmpB_eq z1] at hc; exact h' hc
  · by_cases z2 : cmpB b c = 0
    · rw [← cmpB_eq z2] at hc; exact h hc
    · have := cmpB_trans c b a (by omega) (by omega)
      omega
end Dsr
/- Equal neighbours once. -/
namespace Dsr
section
variable {α : Type} (eq : α → α → Bool)
def compactFrom : α → List α → List α
  | _, [] => []
  | p, y :: l => if eq y p then compactFrom p l else y :: compactFrom y l
def compact : List α → List α
  | [] => []
  | x :: l => x :: compactFrom eq x l
end
section
variable {α : Type} {eq : α → α → Bool}
theorem compactFrom_snoc (he : ∀ x y, eq x y = true ↔ x = y) : ∀ (l : List α) (p x : α), compactFrom eq p (l ++ [x]) = if eq x ((p :: l).getLast (by simp)) then compactFrom eq p l else compactFrom eq p l ++ [x]
  | [], p, x => by
    simp only [List.nil_append, compactFrom, List.getLast_singleton]
    by_cases h : eq x p = true <;> simp [h]
  | y :: l, p, x => by
    have e : (p :: y :: l).getLast (by simp) = (y :: l).getLast (by simp) := List.getLast_cons_cons
    simp only [List.cons_append, compactFrom, e]
    split
    · rename_i h
      have hy : y = p := (he y p).1 h
      subst hy
      exact compactFrom_snoc he l y x
    · rw [compactFrom_snoc he l y x]
      split <;> rfl
theorem compact_step (he : ∀ x y, eq x y = true ↔ x = y) (rs : List α) (m : Nat) (h1 : 1 ≤ m) (x y : α) (hx : rs[m]? = some x) (hy : rs[m - 1]? = some y) :
    compact eq (rs.take (m + 1)) = if eq x y then compact eq (rs.take m) else compact eq (rs.take m) ++ [x] := by
  have hm : m < rs.length := (List.getElem?_eq_some_iff.1 hx).1
  rw [List.take_succ_eq_append_getElem hm]
  have ex : rs[m] = x := (List.getElem?_eq_some_iff.1 hx).2
  rw [ex]
  rcases hl : rs.take m with _ | ⟨p, l⟩
  · have := congrArg List.length hl
    simp at this
    rcases this with h | h
    · omega
    · simp [h] at hm
  · have e : (p :: l).getLast (by simp) = y := by
      have e1 : (p :: l).getLast? = some y := by
        rw [← hl, List.getLast?_take]
        rw [if_neg (by omega), hy]; rfl
      rw [List.getLast?_eq_some_getLast (by simp)] at e1
      exact Option.some.inj e1
    rw [List.cons_append, compact, compact, compactFrom_snoc he, e]
    split <;> rfl
end
end Dsr
