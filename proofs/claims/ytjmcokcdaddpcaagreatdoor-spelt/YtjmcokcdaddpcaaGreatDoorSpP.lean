import Derived.Test.YtjmcokcdaddpcaaGreatDoorPure2
/- The spelt texts, as functions: no program in it. -/
namespace Dsr
/-- The lines of the graph that is spelt. -/
def LL : List (List (List UInt8)) := [
  [[101, 118, 101, 110, 116], [102, 105, 108, 101], [98, 121], [99, 108, 101, 114, 107], [44], [98, 111, 115, 115], [100, 117, 101], [59]],
  [[101, 118, 101, 110, 116], [115, 105, 103, 110], [98, 121], [98, 111, 115, 115], [111, 117, 116], [100, 111, 110, 101], [59]],
  [[102, 105, 108, 101], [45, 62, 43], [115, 105, 103, 110], [59]],
  [[102, 105, 108, 101], [45, 62, 42], [115, 105, 103, 110], [59]],
  [[115, 105, 103, 110], [42, 45, 62], [102, 105, 108, 101], [59]],
  [[102, 105, 108, 101], [45, 62, 43], [115, 105, 103, 110], [59]],
  [[115, 105, 103, 110], [45, 62, 60, 62], [115, 105, 103, 110], [59]]]
def lineAt (j : Nat) : List (List UInt8) := LL.getD j []
def tokAt (j k : Nat) : List UInt8 := (lineAt j).getD k []
/-- Does a token begin with a letter? -/
def wordB : List UInt8 → Bool
  | [] => false
  | c :: _ => letter c
structure SS where
  s : List UInt8
  at_ : Nat
  n : Nat
  word : Bool
/-- One token more: the blanks by the number of the token. -/
def spStep (g : Nat → List UInt8) (bad : Int) (st : SS) (w : List UInt8) : SS :=
  ⟨st.s ++ g st.n ++ (if st.word && wordB w then [32] else []) ++ (if (st.n : Int) = bad then [61] else []) ++ w,
   if (st.n : Int) = bad then (st.s ++ g st.n ++ (if st.word && wordB w then [32] else [])).length else st.at_,
   st.n + 1, wordB w⟩
def spLine (g : Nat → List UInt8) (bad : Int) (st : SS) (l : List (List UInt8)) : SS := l.foldl (spStep g bad) st
def spAll (g : Nat → List UInt8) (bad : Int) (turn : Nat) : Nat → SS
  | 0 => ⟨[], 0, 0, false⟩
  | i + 1 => spLine g bad (spAll g bad turn i) (lineAt ((i + turn) % 7))
/-- So many tokens, so long a text. -/
def SS.fit (st : SS) : Prop := st.s.length ≤ 9 * st.n ∧ st.at_ ≤ st.s.length
theorem step_fit {g : Nat → List UInt8} (hg : ∀ n, (g n).length ≤ 2) {bad : Int} {st : SS} {w : List UInt8} (hw : w.length ≤ 5) (h : st.fit) : (spStep g bad st w).fit := by
  have := hg st.n
  unfold SS.fit at *
  unfold spStep
  simp only [List.length_append]
  refine ⟨?_, ?_⟩
  · split <;> split <;> simp <;> omega
  · split <;> split <;> simp <;> omega
theorem line_fit {g : Nat → List UInt8} (hg : ∀ n, (g n).length ≤ 2) {bad : Int} : ∀ (l : List (List UInt8)) (st : SS), (∀ w ∈ l, w.length ≤ 5) → st.fit → (spLine g bad st l).fit ∧ (spLine g bad st l).n = st.n + l.length
  | [], st, _, h => ⟨h, rfl⟩
  | w :: l, st, hl, h => by
    have := line_fit hg (bad := bad) l (spStep g bad st w) (fun x hx => hl x (by simp [hx])) (step_fit hg (hl w (by simp)) h)
    refine ⟨this.1, this.2.trans ?_⟩
    simp [spStep]; omega
theorem line_ok : ∀ j, j < 7 → (lineAt j).length ≤ 8 ∧ 0 < (lineAt j).length ∧ ∀ w ∈ lineAt j, w.length ≤ 5 ∧ w ≠ [] := by decide
theorem all_fit {g : Nat → List UInt8} (hg : ∀ n, (g n).length ≤ 2) {bad : Int} {turn : Nat} : ∀ i, (spAll g bad turn i).fit ∧ (spAll g bad turn i).n ≤ 8 * i
  | 0 => ⟨⟨Nat.zero_le _, Nat.le_refl _⟩, Nat.le_refl _⟩
  | i + 1 => by
    have h := all_fit hg (bad := bad) (turn := turn) i
    have hj := line_ok ((i + turn) % 7) (Nat.mod_lt _ (by decide))
    have := line_fit hg (bad := bad) (lineAt ((i + turn) % 7)) _ (fun w hw => (hj.2.2 w hw).1) h.1
    refine ⟨this.1, ?_⟩
    have h2 := this.2
    show (spLine g bad (spAll g bad turn i) (lineAt ((i + turn) % 7))).n ≤ _
    omega
theorem line_snoc (g : Nat → List UInt8) (bad : Int) (st : SS) (l : List (List UInt8)) (k : Nat) (w : List UInt8) (h : l[k]? = some w) : spLine g bad st (l.take (k + 1)) = spStep g bad (spLine g bad st (l.take k)) w := by
  unfold spLine
  have hk : k < l.length := by
    rcases Nat.lt_or_ge k l.length with hk | hk
    · exact hk
    · rw [List.getElem?_eq_none hk] at h; cases h
  rw [List.getElem?_eq_getElem hk] at h
  cases h
  rw [List.take_succ_eq_append_getElem hk, List.foldl_append]
  rfl
end Dsr
