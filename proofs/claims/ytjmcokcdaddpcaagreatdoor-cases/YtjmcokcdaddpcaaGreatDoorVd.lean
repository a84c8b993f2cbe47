import Derived.Test.YtjmcokcdaddpcaaGreatDoorUa
import Derived.KernelRfl
import Derived.Test.YtjmcokcdaddpcaaGreatDoorUr
import Derived.Test.YtjmcokcdaddpcaaGreatDoorVc
import Derived.Test.YtjmcokcdaddpcaaGreatDoorLwS
import Derived.BigQuiet
import Derived.WideShapes
/- The tokens of the spelt texts: no program in it. -/
namespace Dsr
def kindOf (w : List UInt8) : Nat := if wordB w then wordKind w else if signOf w < 5 then 9 else oneKind (w.take 1)
def ruleOf (w : List UInt8) : Nat := if wordB w then 0 else if signOf w < 5 then signOf w else 0
/-- Tokens by their words, their places by their numbers. -/
def withPos (p : Nat → Nat) : Nat → List (List UInt8) → List Tok
  | _, [] => []
  | i, w :: ws => ⟨kindOf w, ruleOf w, p i, w⟩ :: withPos p (i + 1) ws
/-- All tokens, the lines turned. -/
def allT (turn : Nat) : List (List UInt8) := (List.range 7).flatMap fun i => lineAt ((i + turn) % 7)
def insT (turn bad : Nat) : List (List UInt8) := (allT turn).take bad ++ [61] :: (allT turn).drop bad
theorem stray_all (n : Nat) (p : Nat → Nat) : ((List.range 7).map fun turn => (List.range 35).map fun bad => ((readL (endT n) (withPos p 0 (insT turn bad))).fErr, (readL (endT n) (withPos p 0 (insT turn bad))).fAt)) = (List.range 7).map fun _ => (List.range 35).map fun bad => (2, p bad) := by kernel_rfl
theorem stray_at (n : Nat) (p : Nat → Nat) (turn bad : Nat) (ht : turn < 7) (hb : bad < 35) : (readL (endT n) (withPos p 0 (insT turn bad))).fErr = 2 ∧ (readL (endT n) (withPos p 0 (insT turn bad))).fAt = p bad := by
  have h := congrArg (fun l => l[turn]?.bind fun m : List (Nat × Nat) => m[bad]?) (stray_all n p)
  simp [ht, hb] at h
  exact h
def evF : Ev := ⟨[102, 105, 108, 101], [[99, 108, 101, 114, 107], [98, 111, 115, 115]], false, true, true⟩
def evS : Ev := ⟨[115, 105, 103, 110], [[98, 111, 115, 115]], true, false, false⟩
def ru1 : Rl := ⟨[102, 105, 108, 101], [115, 105, 103, 110], 3⟩
def ru2 : Rl := ⟨[102, 105, 108, 101], [115, 105, 103, 110], 0⟩
def ru3 : Rl := ⟨[115, 105, 103, 110], [102, 105, 108, 101], 2⟩
def ru5 : Rl := ⟨[115, 105, 103, 110], [115, 105, 103, 110], 1⟩
theorem good_err (n : Nat) (p : Nat → Nat) (turn : Nat) (ht : turn < 7) : (readL (endT n) (withPos p 0 (allT turn))).fErr = 0 := by
  have h : ((List.range 7).map fun turn => (readL (endT n) (withPos p 0 (allT turn))).fErr) = (List.range 7).map fun _ => 0 := by kernel_rfl
  have h := congrArg (fun l => l[turn]?) h
  simpa [ht] using h
theorem good_name (n : Nat) (p : Nat → Nat) (turn : Nat) (ht : turn < 7) : wrongName (readL (endT n) (withPos p 0 (allT turn))).uses = none := by
  have h : ((List.range 7).map fun turn => wrongName (readL (endT n) (withPos p 0 (allT turn))).uses) = (List.range 7).map fun _ => none := by kernel_rfl
  have h := congrArg (fun l => l[turn]?) h
  simpa [ht] using h
theorem good_events (n : Nat) (p : Nat → Nat) (turn : Nat) (ht : turn < 7) : (readL (endT n) (withPos p 0 (allT turn))).events = if turn = 1 then [evS, evF] else [evF, evS] := by
  have h : ((List.range 7).map fun turn => (readL (endT n) (withPos p 0 (allT turn))).events) = (List.range 7).map fun turn => if turn = 1 then [evS, evF] else [evF, evS] := by kernel_rfl
  have h := congrArg (fun l => l[turn]?) h
  simpa [ht] using h
theorem good_rules (n : Nat) (p : Nat → Nat) (turn : Nat) (ht : turn < 7) : (readL (endT n) (withPos p 0 (allT turn))).rules = [ru1, ru2, ru3, ru1, ru5].drop (turn - 2) ++ [ru1, ru2, ru3, ru1, ru5].take (turn - 2) := by
  have h : ((List.range 7).map fun turn => (readL (endT n) (withPos p 0 (allT turn))).rules) = (List.range 7).map fun turn => [ru1, ru2, ru3, ru1, ru5].drop (turn - 2) ++ [ru1, ru2, ru3, ru1, ru5].take (turn - 2) := by kernel_rfl
  have h := congrArg (fun l => l[turn]?) h
  simpa [ht] using h
theorem good_perm (n : Nat) (p : Nat → Nat) (turn : Nat) (ht : turn < 7) : [evF, evS].Perm (readL (endT n) (withPos p 0 (allT turn))).events ∧ [ru2, ru1, ru1, ru3, ru5].Perm (readL (endT n) (withPos p 0 (allT turn))).rules := by
  rw [good_events n p turn ht, good_rules n p turn ht]
  refine ⟨?_, ?_⟩
  · split
    · exact List.Perm.swap _ _ _
    · exact List.Perm.refl _
  · have h1 : [ru1, ru2, ru3, ru1, ru5].Perm ([ru1, ru2, ru3, ru1, ru5].drop (turn - 2) ++ [ru1, ru2, ru3, ru1, ru5].take (turn - 2)) := by
      conv => lhs; rw [← List.take_append_drop (turn - 2) [ru1, ru2, ru3, ru1, ru5]]
      exact List.perm_append_comm
    exact ((List.Perm.swap ru1 ru2 [ru1, ru3, ru5]).trans (.cons _ (.cons _ (.swap ru3 ru1 [ru5])))).trans h1
/-- Blanks and a token, one behind the other. -/
abbrev Prs := List (List UInt8 × List UInt8)
def flat (P : Prs) : List UInt8 := P.flatMap fun x => x.1 ++ x.2
def toksOf : Prs → Nat → List Tok
  | [], _ => []
  | x :: P, n => ⟨kindOf x.2, ruleOf x.2, n + x.1.length, x.2⟩ :: toksOf P (n + x.1.length + x.2.length)
/-- A token's bytes. -/
def TkB (w : List UInt8) : Prop := (wordB w = true ∧ ∀ c ∈ w, wordy c = true) ∨ (∃ k, k < 5 ∧ w = signs.getD k []) ∨ w = [44] ∨ w = [59] ∨ w = [61]
def GoodP : Bool → Prs → Prop
  | _, [] => True
  | b, x :: P => (∀ c ∈ x.1, blank c = true) ∧ TkB x.2 ∧ (b = true → wordB x.2 = true → x.1 ≠ []) ∧ GoodP (wordB x.2) P
theorem blankLen_app : ∀ (g l : List UInt8), (∀ c ∈ g, blank c = true) → (∀ c m, l = c :: m → blank c = false) → blankLen (g ++ l) = g.length
  | [], [], _, _ => rfl
  | [], c :: m, _, h => by simp [blankLen, h c m rfl]
  | c :: g, l, hg, h => by
    rw [List.cons_append, blankLen, if_pos (hg c (by simp)), blankLen_app g l (fun x hx => hg x (by simp [hx])) h]; rfl
theorem wordLen_app : ∀ (g l : List UInt8), (∀ c ∈ g, wordy c = true) → (∀ c m, l = c :: m → wordy c = false) → wordLen (g ++ l) = g.length
  | [], [], _, _ => rfl
  | [], c :: m, _, h => by simp [wordLen, h c m rfl]
  | c :: g, l, hg, h => by
    rw [List.cons_append, wordLen, if_pos (hg c (by simp)), wordLen_app g l (fun x hx => hg x (by simp [hx])) h]; rfl
theorem letter_blank {c : UInt8} (h : letter c = true) : blank c = false := by
  unfold letter at h; unfold blank
  simp at h ⊢; omega
theorem blank_wordy {c : UInt8} (h : blank c = true) : wordy c = false := by
  unfold blank at h; unfold wordy letter digit
  simp at h ⊢; omega
theorem tk_head {w : List UInt8} (h : TkB w) : ∃ c m, w = c :: m ∧ blank c = false ∧ (wordB w = false → wordy c = false) := by
  rcases h with ⟨h1, h2⟩ | ⟨k, hk, rfl⟩ | rfl | rfl | rfl
  · rcases w with _ | ⟨c, m⟩
    · simp [wordB] at h1
    · exact ⟨c, m, rfl, letter_blank h1, fun h => by rw [h1] at h; cases h⟩
  · rcases k with _ | _ | _ | _ | _ | k
    · exact ⟨_, _, rfl, by decide, fun _ => by decide⟩
    · exact ⟨_, _, rfl, by decide, fun _ => by decide⟩
    · exact ⟨_, _, rfl, by decide, fun _ => by decide⟩
    · exact ⟨_, _, rfl, by decide, fun _ => by decide⟩
    · exact ⟨_, _, rfl, by decide, fun _ => by decide⟩
    · omega
  · exact ⟨_, _, rfl, by decide, fun _ => by decide⟩
  · exact ⟨_, _, rfl, by decide, fun _ => by decide⟩
  · exact ⟨_, _, rfl, by decide, fun _ => by decide⟩
theorem scanAt_tk {w rest : List UInt8} (n : Nat) (h : TkB w) (hr : wordB w = true → ∀ c m, rest = c :: m → wordy c = false) : scanAt (w ++ rest) n = ⟨kindOf w, ruleOf w, n, w⟩ := by
  rcases h with ⟨h1, h2⟩ | ⟨k, hk, rfl⟩ | rfl | rfl | rfl
  · rcases w with _ | ⟨c, m⟩
    · simp [wordB] at h1
    · have hl := wordLen_app (c :: m) rest h2 (hr h1)
      rw [List.cons_append]
      show (if letter c = true then scanWord (c :: m ++ rest) n else scanSign (c :: m ++ rest) n) = _
      rw [if_pos (show letter c = true from h1)]
      unfold scanWord kindOf ruleOf
      rw [hl, List.take_left, if_pos h1, if_pos h1]
  · rcases k with _ | _ | _ | _ | _ | k
    · rfl
    · rfl
    · rfl
    · rfl
    · rfl
    · omega
  · rfl
  · rfl
  · rfl
theorem flat_cons (x : List UInt8 × List UInt8) (P : Prs) : flat (x :: P) = x.1 ++ (x.2 ++ flat P) := by simp [flat]
theorem lst_flat (t : List UInt8) : ∀ (P : Prs) (b : Bool) (n : Nat), GoodP b P → t.drop n = flat P → n + (flat P).length = t.length → Lst t n (toksOf P n)
  | [], _, n, _, hd, hl => by
    have : n = t.length := by simpa [flat] using hl
    subst this
    exact lst_end t
  | x :: P, b, n, hg, hd, hl => by
    obtain ⟨h1, h2, h3, h4⟩ := hg
    rw [flat_cons] at hd hl
    obtain ⟨c, m, hw, hb, hn⟩ := tk_head h2
    have hbl : blankLen (t.drop n) = x.1.length := by
      rw [hd]
      exact blankLen_app _ _ h1 (fun c' m' e => by rw [hw] at e; cases e; exact hb)
    have hd2 : t.drop (n + x.1.length) = x.2 ++ flat P := by rw [← List.drop_drop, hd, List.drop_left]
    have hd3 : t.drop (n + x.1.length + x.2.length) = flat P := by rw [← List.drop_drop, hd2, List.drop_left]
    refine ⟨?_, lst_flat t P (wordB x.2) (n + x.1.length + x.2.length) h4 hd3 (by simp only [List.length_append] at hl; omega)⟩
    unfold scan
    rw [hbl, hd2]
    refine scanAt_tk _ h2 ?_
    intro hwb c' m' e
    rcases P with _ | ⟨y, P⟩
    · simp [flat] at e
    · obtain ⟨g1, g2, g3, _⟩ := h4
      rw [flat_cons] at e
      rcases hy : y.1 with _ | ⟨d, gd⟩
      · rw [hy] at e
        obtain ⟨c2, m2, hw2, hb2, hn2⟩ := tk_head g2
        rw [hw2] at e
        cases e
        refine hn2 ?_
        rcases hwy : wordB y.2 with _ | _
        · rfl
        · exact absurd hy (g3 hwb hwy)
      · rw [hy] at e
        cases e
        exact blank_wordy (g1 _ (by rw [hy]; simp))
/-- Their places, by their numbers. -/
def posOf (P : Prs) (n : Nat) (i : Nat) : Nat := n + (flat (P.take i)).length + ((P[i]?).map (fun x => x.1.length)).getD 0
theorem withPos_congr (p q : Nat → Nat) : ∀ (ws : List (List UInt8)) (i j : Nat), (∀ k, k < ws.length → p (i + k) = q (j + k)) → withPos p i ws = withPos q j ws
  | [], _, _, _ => rfl
  | w :: ws, i, j, h => by
    unfold withPos
    rw [withPos_congr p q ws (i + 1) (j + 1) (fun k hk => by have := h (k + 1) (by simp; omega); rw [Nat.add_assoc, Nat.add_comm 1 k, Nat.add_assoc, Nat.add_comm 1 k]; exact this)]
    have := h 0 (by simp)
    rw [Nat.add_zero, Nat.add_zero] at this
    rw [this]
theorem toksOf_pos : ∀ (P : Prs) (n : Nat), toksOf P n = withPos (posOf P n) 0 (P.map (·.2))
  | [], _ => rfl
  | x :: P, n => by
    show _ = _ :: withPos (posOf (x :: P) n) (0 + 1) (P.map (·.2))
    rw [toksOf, toksOf_pos P]
    have h0 : n + x.1.length = posOf (x :: P) n 0 := by simp [posOf, flat]
    rw [h0]
    congr 1
    refine withPos_congr _ _ _ _ _ (fun k _ => ?_)
    rw [← h0]
    unfold posOf
    rw [show 0 + 1 + k = k + 1 by omega, Nat.zero_add]
    simp [flat]
    omega
/-- The pairs of a spelt text. -/
def sepOf (wd : Bool) (w : List UInt8) : List UInt8 := if wd && wordB w then [32] else []
def prs (g : Nat → List UInt8) (bad : Int) : Nat → Bool → List (List UInt8) → Prs
  | _, _, [] => []
  | n, wd, w :: ts => (if (n : Int) = bad then [(g n ++ sepOf wd w, [61]), ([], w)] else [(g n ++ sepOf wd w, w)]) ++ prs g bad (n + 1) (wordB w) ts
theorem prs_cons (g : Nat → List UInt8) (bad : Int) (n : Nat) (wd : Bool) (w : List UInt8) (ts : List (List UInt8)) : prs g bad n wd (w :: ts) = (if (n : Int) = bad then [(g n ++ sepOf wd w, [61]), ([], w)] else [(g n ++ sepOf wd w, w)]) ++ prs g bad (n + 1) (wordB w) ts := rfl
theorem sep_blank {wd : Bool} {w : List UInt8} : ∀ c ∈ sepOf wd w, blank c = true := by
  unfold sepOf
  split
  · intro c hc; simp at hc; subst hc; rfl
  · simp
theorem prs_good {g : Nat → List UInt8} (hg : ∀ n, ∀ c ∈ g n, blank c = true) {bad : Int} : ∀ (ts : List (List UInt8)) (n : Nat) (wd : Bool), (∀ w ∈ ts, TkB w) → GoodP wd (prs g bad n wd ts)
  | [], _, _, _ => trivial
  | w :: ts, n, wd, h => by
    have hb : ∀ c ∈ g n ++ sepOf wd w, blank c = true := fun c hc => by
      rcases List.mem_append.1 hc with hc | hc
      · exact hg n c hc
      · exact sep_blank c hc
    have ih := prs_good hg (bad := bad) ts (n + 1) (wordB w) (fun x hx => h x (by simp [hx]))
    unfold prs
    split
    · refine ⟨hb, .inr (.inr (.inr (.inr rfl))), fun _ h => (by simp [wordB, letter] at h), ?_, h w (by simp), fun h => (by simp [wordB, letter] at h), ih⟩
      simp
    · refine ⟨hb, h w (by simp), fun h1 h2 => ?_, ih⟩
      simp only at h2
      simp [sepOf, h1, h2]
theorem line_eq (g : Nat → List UInt8) (bad : Int) : ∀ (ts : List (List UInt8)) (st : SS), (spLine g bad st ts).s = st.s ++ flat (prs g bad st.n st.word ts)
  | [], st => by simp [spLine, prs, flat]
  | w :: ts, st => by
    have ih := line_eq g bad ts (spStep g bad st w)
    show (spLine g bad (spStep g bad st w) ts).s = _
    rw [ih, prs_cons]
    show (st.s ++ g st.n ++ sepOf st.word w ++ (if (st.n : Int) = bad then [61] else []) ++ w) ++ flat (prs g bad (st.n + 1) (wordB w) ts) = _
    split <;> simp [flat]
theorem line_past (g : Nat → List UInt8) (bad : Int) : ∀ (ts : List (List UInt8)) (st : SS), bad < st.n → (spLine g bad st ts).at_ = st.at_
  | [], st, _ => rfl
  | w :: ts, st, h => by
    have ih := line_past g bad ts (spStep g bad st w) (by show bad < ((st.n + 1 : Nat) : Int); omega)
    show (spLine g bad (spStep g bad st w) ts).at_ = _
    rw [ih]
    show (if (st.n : Int) = bad then _ else st.at_) = st.at_
    rw [if_neg (by omega)]
theorem line_at (g : Nat → List UInt8) (bad : Nat) : ∀ (ts : List (List UInt8)) (st : SS), st.n ≤ bad → bad < st.n + ts.length → (spLine g bad st ts).at_ = posOf (prs g bad st.n st.word ts) st.s.length (bad - st.n)
  | [], st, h1, h2 => by simp at h2; omega
  | w :: ts, st, h1, h2 => by
    show (spLine g bad (spStep g bad st w) ts).at_ = _
    by_cases hb : (st.n : Int) = (bad : Int)
    · rw [line_past g bad ts _ (by show (bad : Int) < ((st.n + 1 : Nat) : Int); omega)]
      have : bad - st.n = 0 := by omega
      rw [this, prs_cons]
      show (if (st.n : Int) = bad then (st.s ++ g st.n ++ sepOf st.word w).length else _) = _
      rw [if_pos hb, if_pos hb]
      simp [flat, posOf]
    · have ih := line_at g bad ts (spStep g bad st w) (by show st.n + 1 ≤ bad; omega) (by show bad < st.n + 1 + ts.length; simp at h2; omega)
      rw [ih]
      have e : bad - st.n = (bad - (st.n + 1)) + 1 := by omega
      rw [prs_cons, if_neg hb, e]
      show posOf (prs g bad (st.n + 1) (wordB w) ts) (st.s ++ g st.n ++ sepOf st.word w ++ (if (st.n : Int) = bad then [61] else []) ++ w).length (bad - (st.n + 1)) = _
      rw [if_neg hb]
      generalize bad - (st.n + 1) = k
      generalize prs g bad (st.n + 1) (wordB w) ts = P
      simp [flat, posOf]
      omega
theorem prs_words (g : Nat → List UInt8) (bad : Nat) : ∀ (ts : List (List UInt8)) (n : Nat) (wd : Bool), n ≤ bad → bad < n + ts.length → (prs g bad n wd ts).map (·.2) = ts.take (bad - n) ++ [61] :: ts.drop (bad - n)
  | [], n, wd, h1, h2 => by simp at h2; omega
  | w :: ts, n, wd, h1, h2 => by
    have past : ∀ (ts : List (List UInt8)) (m : Nat) (wd : Bool), bad < m → (prs g bad m wd ts).map (·.2) = ts := by
      intro ts
      induction ts with
      | nil => intros; rfl
      | cons w ts ih =>
        intro m wd hm
        unfold prs
        rw [if_neg (by omega)]
        simp [ih (m + 1) (wordB w) (by omega)]
    unfold prs
    by_cases hb : (n : Int) = (bad : Int)
    · rw [if_pos hb]
      have : bad - n = 0 := by omega
      rw [this]
      simp [past ts (n + 1) (wordB w) (by omega)]
    · rw [if_neg hb]
      have e : bad - n = (bad - (n + 1)) + 1 := by omega
      have ih := prs_words g bad ts (n + 1) (wordB w) (by omega) (by simp at h2; omega)
      rw [e]
      simp [ih]
theorem prs_none (g : Nat → List UInt8) : ∀ (ts : List (List UInt8)) (n : Nat) (wd : Bool), (prs g (-1) n wd ts).map (·.2) = ts
  | [], _, _ => rfl
  | w :: ts, n, wd => by
    unfold prs
    rw [if_neg (by omega)]
    simp [prs_none g ts (n + 1) (wordB w)]
theorem spAll_eq (g : Nat → List UInt8) (bad : Int) (turn : Nat) : spAll g bad turn 7 = spLine g bad ⟨[], 0, 0, false⟩ (allT turn) := by
  have h : ∀ i, spAll g bad turn i = spLine g bad ⟨[], 0, 0, false⟩ ((List.range i).flatMap fun i => lineAt ((i + turn) % 7)) := by
    intro i
    induction i with
    | zero => rfl
    | succ i ih =>
      rw [List.range_succ, List.flatMap_append]
      unfold spLine at ih ⊢
      rw [List.foldl_append, ← ih]
      simp [spAll, spLine]
  exact h 7
theorem tk_of_line : ∀ j, j < 7 → ∀ w ∈ lineAt j, (wordB w = true ∧ ∀ c ∈ w, wordy c = true) ∨ w ∈ signs ∨ w = [44] ∨ w = [59] := by decide +kernel
theorem allT_tk (turn : Nat) : ∀ w ∈ allT turn, TkB w := by
  intro w hw
  obtain ⟨i, _, h⟩ := List.mem_flatMap.1 hw
  rcases tk_of_line _ (Nat.mod_lt _ (by decide)) w h with h | h | h | h
  · exact .inl h
  · refine .inr (.inl ?_)
    obtain ⟨k, hk, e⟩ := List.getElem_of_mem h
    exact ⟨k, hk, by rw [← e]; simp [hk]⟩
  · exact .inr (.inr (.inl h))
  · exact .inr (.inr (.inr (.inl h)))
theorem allT_len : ∀ turn, turn < 7 → (allT turn).length = 35 := by decide +kernel
/-- The good text is read as its tokens. -/
theorem good_read {g : Nat → List UInt8} (hg : ∀ n, ∀ c ∈ g n, blank c = true) (turn : Nat) : ∃ p, readR (spAll g (-1) turn 7).s = readL (endT (spAll g (-1) turn 7).s.length) (withPos p 0 (allT turn)) := by
  have e : (spAll g (-1) turn 7).s = flat (prs g (-1) 0 false (allT turn)) := by rw [spAll_eq, line_eq]; rfl
  refine ⟨posOf (prs g (-1) 0 false (allT turn)) 0, ?_⟩
  rw [readR_eq (lst_flat _ (prs g (-1) 0 false (allT turn)) false 0 (prs_good hg _ _ _ (allT_tk turn)) (by rw [e]; rfl) (by rw [e]; omega)), toksOf_pos, prs_none]
/-- The text with the stray byte. -/
theorem bad_read {g : Nat → List UInt8} (hg : ∀ n, ∀ c ∈ g n, blank c = true) (turn bad : Nat) (ht : turn < 7) (hb : bad < 35) :
    (readR (spAll g bad turn 7).s).fErr = 2 ∧ (readR (spAll g bad turn 7).s).fAt = (spAll g bad turn 7).at_ := by
  have e : (spAll g bad turn 7).s = flat (prs g bad 0 false (allT turn)) := by rw [spAll_eq, line_eq]; rfl
  have hat : (spAll g bad turn 7).at_ = posOf (prs g bad 0 false (allT turn)) 0 bad := by
    rw [spAll_eq]
    exact line_at g bad (allT turn) ⟨[], 0, 0, false⟩ (Nat.zero_le _) (by rw [allT_len turn ht]; show bad < 0 + 35; omega)
  rw [readR_eq (lst_flat _ (prs g bad 0 false (allT turn)) false 0 (prs_good hg _ _ _ (allT_tk turn)) (by rw [e]; rfl) (by rw [e]; omega)), toksOf_pos, prs_words g bad (allT turn) 0 false (Nat.zero_le _) (by rw [allT_len turn ht]; omega), hat]
  exact stray_at _ _ turn bad ht hb
end Dsr
set_option linter.unusedVariables false
set_option linter.unusedSimpArgs false
namespace Go.Proofs.YtjmcokcdaddpcaaGreatDoor
open Go.RowKit
/-- A graph's order is one. -/
theorem ord_one {r : Dsr.Rd} {es : List Dsr.Ev} {rs : List Dsr.Rl} (h : OrdG r es rs) {ce : List Dsr.Ev} {cr : List Dsr.Rl} (hpe : ce.Perm r.events) (hse : ce.Pairwise (fun a b => 0 ≤ Dsr.cmpB b.name a.name))
    (hnd : ∀ a ∈ r.events, ∀ b ∈ r.events, a.name = b.name → a = b) (hpr : cr.Perm r.rules) (hsr : cr.Pairwise (fun a b => 0 ≤ cmpRl b a)) :
    es = ce.map (fun e => { e with roles := e.roles.mergeSort fun x y => decide (x ≤ y) }) ∧ rs = Dsr.compact eqRl cr := by
  obtain ⟨es0, rs0, h1, h2, rfl, h4, h5, rfl⟩ := h
  have e1 : es0 = ce := List.Perm.eq_of_pairwise (le := fun a b : Dsr.Ev => 0 ≤ Dsr.cmpB b.name a.name) (fun a b ha hb hab hba => by
    have := Dsr.cmpB_swap a.name b.name
    exact hnd a (h1.mem_iff.1 ha) b (hpe.mem_iff.1 hb) (Dsr.cmpB_eq (by omega))) h2 hse (h1.trans hpe.symm)
  have e2 : rs0 = cr := List.Perm.eq_of_pairwise (le := fun a b : Dsr.Rl => 0 ≤ cmpRl b a) (fun a b ha hb hab hba => by
    rcases ltR_tri a b with h | h | h
    · have := (cmpRl_neg a b).2 h; omega
    · exact h
    · have := (cmpRl_neg b a).2 h; omega) h5 hsr (h4.trans hpr.symm)
  rw [e1, e2]
  exact ⟨rfl, rfl⟩
def wantT : List UInt8 := [101, 118, 101, 110, 116, 32, 102, 105, 108, 101, 32, 98, 121, 32, 98, 111, 115, 115, 44, 32, 99, 108, 101, 114, 107, 32, 100, 117, 101, 59, 10, 101, 118, 101, 110, 116, 32, 115, 105, 103, 110, 32, 98, 121, 32, 98, 111, 115, 115, 32, 111, 117, 116, 32, 100, 111, 110, 101, 59, 10, 102, 105, 108, 101, 32, 45, 62, 42, 32, 115, 105, 103, 110, 59, 10, 102, 105, 108, 101, 32, 45, 62, 43, 32, 115, 105, 103, 110, 59, 10, 115, 105, 103, 110, 32, 42, 45, 62, 32, 102, 105, 108, 101, 59, 10, 115, 105, 103, 110, 32, 45, 62, 60, 62, 32, 115, 105, 103, 110, 59, 10]
theorem want_short : ¬ 400 < wantT.length := by decide +kernel
theorem sort_cb : ([[99, 108, 101, 114, 107], [98, 111, 115, 115]] : List (List UInt8)).mergeSort (fun x y => decide (x ≤ y)) = [[98, 111, 115, 115], [99, 108, 101, 114, 107]] := by
  simp [List.mergeSort, List.MergeSort.Internal.splitInTwo, List.merge]
  decide
theorem sort_bc : ([[98, 111, 115, 115], [99, 108, 101, 114, 107]] : List (List UInt8)).mergeSort (fun x y => decide (x ≤ y)) = [[98, 111, 115, 115], [99, 108, 101, 114, 107]] := by
  simp [List.mergeSort, List.MergeSort.Internal.splitInTwo, List.merge]
  decide
theorem sorted_rules : [Dsr.ru2, Dsr.ru1, Dsr.ru1, Dsr.ru3, Dsr.ru5].Pairwise (fun a b => 0 ≤ cmpRl b a) := by
  simp [List.pairwise_cons, cmpRl, or3, cmpS_eq]
  decide
theorem nd_fs {r : Dsr.Rd} {F S : Dsr.Ev} (h : [F, S].Perm r.events) (hn : F.name ≠ S.name) : ∀ a ∈ r.events, ∀ b ∈ r.events, a.name = b.name → a = b := by
  intro a ha b hb e
  have ha := h.mem_iff.2 ha
  have hb := h.mem_iff.2 hb
  simp at ha hb
  rcases ha with rfl | rfl <;> rcases hb with rfl | rfl
  · rfl
  · exact absurd e hn
  · exact absurd e.symm hn
  · rfl
theorem text_want : Dsr.text ([Dsr.evF, Dsr.evS].map (fun e => { e with roles := e.roles.mergeSort fun x y => decide (x ≤ y) })) (Dsr.compact eqRl [Dsr.ru2, Dsr.ru1, Dsr.ru1, Dsr.ru3, Dsr.ru5]) = wantT := by
  simp only [List.map_cons, List.map_nil, Dsr.evF, Dsr.evS]
  rw [sort_cb, List.mergeSort_singleton]
  decide
theorem sorted_evs : [Dsr.evF, Dsr.evS].Pairwise (fun a b => 0 ≤ Dsr.cmpB b.name a.name) := by
  simp only [List.pairwise_cons]
  decide
/-- What a good text of the spelt graph is printed as. -/
theorem print_good {g : Nat → List UInt8} (hg : ∀ n, (g n).length ≤ 2 ∧ ∀ c ∈ g n, Dsr.blank c = true) {turn : Nat} (ht : turn < 7) {out : List UInt8} {fe fa : Nat} (h : PrintP (Dsr.spAll g (-1) turn 7).s out fe fa) : out = wantT ∧ fe = 0 ∧ fa = 0 := by
  obtain ⟨p, hp⟩ := Dsr.good_read (fun n => (hg n).2) turn
  have hl : (Dsr.spAll g (-1) turn 7).s.length ≤ 400 := by
    have h1 := Dsr.all_fit (fun n => (hg n).1) (bad := -1) (turn := turn) 7
    have h2 := h1.1.1
    have h3 : (Dsr.spAll g (-1) turn 7).n = 35 := by
      rw [Dsr.spAll_eq, (Dsr.line_fit (fun n => (hg n).1) (bad := -1) (Dsr.allT turn) ⟨[], 0, 0, false⟩ (fun w hw => by
        obtain ⟨i, _, hi⟩ := List.mem_flatMap.1 hw
        exact ((Dsr.line_ok _ (Nat.mod_lt _ (by decide))).2.2 w hi).1) ⟨Nat.zero_le _, Nat.le_refl _⟩).2, Dsr.allT_len turn ht]
    omega
  have he : errOf (Dsr.spAll g (-1) turn 7).s = none := by
    unfold errOf
    rw [if_neg (by omega), hp, Dsr.good_err _ p turn ht, if_neg (by simp), Dsr.good_name _ p turn ht]
    rfl
  have hpm := Dsr.good_perm (Dsr.spAll g (-1) turn 7).s.length p turn ht
  rw [← hp] at hpm
  have key : ∀ es rs, OrdG (Dsr.readR (Dsr.spAll g (-1) turn 7).s) es rs → Dsr.text es rs = wantT := by
    intro es rs ho
    obtain ⟨e1, e2⟩ := ord_one ho hpm.1 sorted_evs (nd_fs hpm.1 (by decide)) hpm.2 sorted_rules
    rw [e1, e2]
    exact text_want
  rcases h with ⟨h1, _⟩ | ⟨_, es, rs, ho, ⟨h1, _⟩ | ⟨_, h2, h3, h4⟩⟩
  · rw [he] at h1; cases h1
  · rw [key es rs ho] at h1
    exact absurd h1 want_short
  · exact ⟨h4.trans (key es rs ho), h2, h3⟩
theorem want_read : (Dsr.readR wantT).fErr = 0 ∧ Dsr.wrongName (Dsr.readR wantT).uses = none ∧ (Dsr.readR wantT).events = [{ Dsr.evF with roles := [[98, 111, 115, 115], [99, 108, 101, 114, 107]] }, Dsr.evS] ∧ (Dsr.readR wantT).rules = [Dsr.ru2, Dsr.ru1, Dsr.ru3, Dsr.ru5] := by
  refine ⟨?_, ?_, ?_, ?_⟩
  · kernel_rfl
  · kernel_rfl
  · kernel_rfl
  · kernel_rfl
theorem sorted_rules4 : [Dsr.ru2, Dsr.ru1, Dsr.ru3, Dsr.ru5].Pairwise (fun a b => 0 ≤ cmpRl b a) := by
  simp [List.pairwise_cons, cmpRl, or3, cmpS_eq]
  decide
theorem text_want4 : Dsr.text ([{ Dsr.evF with roles := [[98, 111, 115, 115], [99, 108, 101, 114, 107]] }, Dsr.evS].map (fun e => { e with roles := e.roles.mergeSort fun x y => decide (x ≤ y) })) (Dsr.compact eqRl [Dsr.ru2, Dsr.ru1, Dsr.ru3, Dsr.ru5]) = wantT := by
  simp only [List.map_cons, List.map_nil, Dsr.evF, Dsr.evS]
  rw [sort_bc, List.mergeSort_singleton]
  decide
theorem print_want {out : List UInt8} {fe fa : Nat} (h : PrintP wantT out fe fa) : out = wantT ∧ fe = 0 ∧ fa = 0 := by
  obtain ⟨w1, w2, w3, w4⟩ := want_read
  have he : errOf wantT = none := by
    unfold errOf
    rw [if_neg want_short, w1, if_neg (by simp), w2]
    rfl
  have key : ∀ es rs, OrdG (Dsr.readR wantT) es rs → Dsr.text es rs = wantT := by
    intro es rs ho
    have hpe : [{ Dsr.evF with roles := [[98, 111, 115, 115], [99, 108, 101, 114, 107]] }, Dsr.evS].Perm (Dsr.readR wantT).events := by rw [w3]
    obtain ⟨e1, e2⟩ := ord_one ho hpe (by simp only [List.pairwise_cons]; decide) (nd_fs hpe (by decide)) (cr := [Dsr.ru2, Dsr.ru1, Dsr.ru3, Dsr.ru5]) (by rw [w4]) sorted_rules4
    rw [e1, e2]
    exact text_want4
  rcases h with ⟨h1, _⟩ | ⟨_, es, rs, ho, ⟨h1, _⟩ | ⟨_, h2, h3, h4⟩⟩
  · rw [he] at h1; cases h1
  · rw [key es rs ho] at h1
    exact absurd h1 want_short
  · exact ⟨h4.trans (key es rs ho), h2, h3⟩
theorem print_bad {g : Nat → List UInt8} (hg : ∀ n, (g n).length ≤ 2 ∧ ∀ c ∈ g n, Dsr.blank c = true) {turn bad : Nat} (ht : turn < 7) (hb : bad < 35) {out : List UInt8} {fe fa : Nat} (h : PrintP (Dsr.spAll g bad turn 7).s out fe fa) : out = [] ∧ fe = 2 ∧ fa = (Dsr.spAll g bad turn 7).at_ := by
  have hl : (Dsr.spAll g bad turn 7).s.length ≤ 400 := by
    have h1 := Dsr.all_fit (fun n => (hg n).1) (bad := bad) (turn := turn) 7
    have h2 := h1.1.1
    have h3 : (Dsr.spAll g bad turn 7).n = 35 := by
      rw [Dsr.spAll_eq, (Dsr.line_fit (fun n => (hg n).1) (bad := bad) (Dsr.allT turn) ⟨[], 0, 0, false⟩ (fun w hw => by
        obtain ⟨i, _, hi⟩ := List.mem_flatMap.1 hw
        exact ((Dsr.line_ok _ (Nat.mod_lt _ (by decide))).2.2 w hi).1) ⟨Nat.zero_le _, Nat.le_refl _⟩).2, Dsr.allT_len turn ht]
    omega
  obtain ⟨h1, h2⟩ := Dsr.bad_read (fun n => (hg n).2) turn bad ht hb
  have he : errOf (Dsr.spAll g bad turn 7).s = some (2, (Dsr.spAll g bad turn 7).at_) := by
    unfold errOf
    rw [if_neg (by omega), h1, h2, if_pos (by decide)]
  rcases h with ⟨h3, _, h5⟩ | ⟨h3, _⟩
  · rw [he] at h3
    cases h3
    exact ⟨h5, rfl, rfl⟩
  · rw [he] at h3; cases h3
end Go.Proofs.YtjmcokcdaddpcaaGreatDoor
set_option linter.unusedVariables false
set_option linter.unusedSimpArgs false
namespace Go.Proofs.YtjmcokcdaddpcaaGreatDoor
open Go.RowKit
/-- The graph of the document's examples. -/
def loanT : List UInt8 := [101, 118, 101, 110, 116, 32, 97, 112, 112, 108, 121, 32, 98, 121, 32, 99, 108, 105, 101, 110, 116, 59, 32, 101, 118, 101, 110, 116, 32, 99, 104, 101, 99, 107, 32, 98, 121, 32, 99, 108, 101, 114, 107, 44, 32, 98, 111, 115, 115, 59, 32, 101, 118, 101, 110, 116, 32, 112, 97, 121, 32, 98, 121, 32, 98, 111, 115, 115, 32, 111, 117, 116, 59, 32, 101, 118, 101, 110, 116, 32, 100, 101, 110, 121, 32, 98, 121, 32, 98, 111, 115, 115, 44, 32, 99, 108, 101, 114, 107, 59, 32, 97, 112, 112, 108, 121, 32, 45, 62, 42, 32, 99, 104, 101, 99, 107, 59, 32, 97, 112, 112, 108, 121, 32, 42, 45, 62, 32, 99, 104, 101, 99, 107, 59, 32, 99, 104, 101, 99, 107, 32, 45, 62, 43, 32, 112, 97, 121, 59, 32, 99, 104, 101, 99, 107, 32, 45, 62, 60, 62, 32, 112, 97, 121, 59, 32, 112, 97, 121, 32, 45, 62, 37, 32, 100, 101, 110, 121, 59, 32, 100, 101, 110, 121, 32, 45, 62, 37, 32, 112, 97, 121, 59]
def loanE : List Dsr.Ev := [⟨[97, 112, 112, 108, 121], [[99, 108, 105, 101, 110, 116]], false, true, false⟩, ⟨[99, 104, 101, 99, 107], [[99, 108, 101, 114, 107], [98, 111, 115, 115]], false, true, false⟩, ⟨[112, 97, 121], [[98, 111, 115, 115]], false, false, false⟩, ⟨[100, 101, 110, 121], [[98, 111, 115, 115], [99, 108, 101, 114, 107]], false, true, false⟩]
def loanS : List Dsr.Ev := [⟨[97, 112, 112, 108, 121], [[99, 108, 105, 101, 110, 116]], false, true, false⟩, ⟨[99, 104, 101, 99, 107], [[99, 108, 101, 114, 107], [98, 111, 115, 115]], false, true, false⟩, ⟨[100, 101, 110, 121], [[98, 111, 115, 115], [99, 108, 101, 114, 107]], false, true, false⟩, ⟨[112, 97, 121], [[98, 111, 115, 115]], false, false, false⟩]
def loanR : List Dsr.Rl := [⟨[97, 112, 112, 108, 121], [99, 104, 101, 99, 107], 0⟩, ⟨[97, 112, 112, 108, 121], [99, 104, 101, 99, 107], 2⟩, ⟨[99, 104, 101, 99, 107], [112, 97, 121], 3⟩, ⟨[99, 104, 101, 99, 107], [112, 97, 121], 1⟩, ⟨[112, 97, 121], [100, 101, 110, 121], 4⟩, ⟨[100, 101, 110, 121], [112, 97, 121], 4⟩]
def loanQ : List Dsr.Rl := [⟨[97, 112, 112, 108, 121], [99, 104, 101, 99, 107], 0⟩, ⟨[97, 112, 112, 108, 121], [99, 104, 101, 99, 107], 2⟩, ⟨[99, 104, 101, 99, 107], [112, 97, 121], 1⟩, ⟨[99, 104, 101, 99, 107], [112, 97, 121], 3⟩, ⟨[100, 101, 110, 121], [112, 97, 121], 4⟩, ⟨[112, 97, 121], [100, 101, 110, 121], 4⟩]
theorem loan_ev : (Dsr.readR loanT).events = loanE := by kernel_rfl
theorem loan_ru : (Dsr.readR loanT).rules = loanR := by kernel_rfl
theorem loan_err : errOf loanT = none := by kernel_rfl
theorem loan_pe : loanS.Perm loanE := by
  unfold loanS loanE
  exact .cons _ (.cons _ (.swap _ _ _))
theorem loan_pr : loanQ.Perm loanR := by
  unfold loanQ loanR
  exact .cons _ (.cons _ ((List.Perm.swap _ _ _).trans (.cons _ (.cons _ (.swap _ _ _)))))
theorem loan_se : loanS.Pairwise (fun a b => 0 ≤ Dsr.cmpB b.name a.name) := by
  simp only [loanS, List.pairwise_cons]
  decide
theorem loan_sr : loanQ.Pairwise (fun a b => 0 ≤ cmpRl b a) := by
  simp only [loanQ, List.pairwise_cons]
  decide
theorem loan_nd : ∀ a ∈ loanE, ∀ b ∈ loanE, a.name = b.name → a = b := by
  intro a ha b hb hab
  simp [loanE] at ha hb
  rcases ha with rfl | rfl | rfl | rfl <;> rcases hb with rfl | rfl | rfl | rfl <;> simp at hab ⊢
theorem loan_len : ((Dsr.text (loanS.map fun e => { e with roles := if e.roles.length = 2 then [[98, 111, 115, 115], [99, 108, 101, 114, 107]] else e.roles }) (Dsr.compact eqRl loanQ)).length ≤ 400 : Bool) = true := by kernel_rfl
theorem loan_in : LetIn loanT := by
  refine ⟨loan_err, fun es rs ho => ?_⟩
  obtain ⟨h1, h2⟩ := ord_one ho (ce := loanS) (cr := loanQ) (by rw [loan_ev]; exact loan_pe) loan_se (by rw [loan_ev]; exact loan_nd) (by rw [loan_ru]; exact loan_pr) loan_sr
  rw [h1, h2]
  have e : loanS.map (fun e => { e with roles := e.roles.mergeSort fun x y => decide (x ≤ y) }) = loanS.map fun e => { e with roles := if e.roles.length = 2 then [[98, 111, 115, 115], [99, 108, 101, 114, 107]] else e.roles } := by
    simp only [loanS, List.map_cons, List.map_nil, sort_cb, sort_bc, List.mergeSort_singleton]
    rfl
  rw [e]
  exact of_decide_eq_true loan_len
end Go.Proofs.YtjmcokcdaddpcaaGreatDoor
set_option linter.unusedVariables false
set_option linter.unusedSimpArgs false
namespace Go.Proofs.YtjmcokcdaddpcaaGreatDoor
open Go.RowKit
theorem wStep_any {wz : World} {N : Nat} {w : World} {ω : Nat → Nat} {s : WS} (h : WInv wz N w ω s) (kd e A C : Int) (S R : List UInt8) (ba : Option Addr) (bn bc : Nat) (hk : 3 ≤ kd ∧ kd < 10) (hbn : s.bn < 1600000000000) (hst : ∀ p ∈ s.ps, p.st = false) (hps : 0 < s.ps.length) (he1 : -9223372036854775808 ≤ e) (he2 : e < 9223372036854775808) :
    Calls Tryz.prog 48 #[ptr s.wb, .agg #[.int .i64 kd, .int .i64 e, strV S, strV R, .slice ba bn bc, .int .i64 A, .int .i64 C]] w fun x w' => StepQ wz N s x w' := by
  rcases (by omega : kd = 3 ∨ kd = 4 ∨ kd = 5 ∨ kd = 6 ∨ kd = 7 ∨ kd = 8 ∨ kd = 9) with rfl | rfl | rfl | rfl | rfl | rfl | rfl
  · exact wStep_new h e A C S R ba bn bc hbn hst
  · exact wStep_ask h e A C S R ba bn bc hbn hst hps he1 he2
  · exact wStep_settle h e A C S R ba bn bc hbn hst hps he1 he2
  · exact wStep_mark h e A C S R ba bn bc hbn hst hps he1 he2
  · exact wStep_enabled h e A C S R ba bn bc hbn hst hps he1 he2
  · exact wStep_acc h e A C S R ba bn bc hbn hst hps he1 he2
  · exact wStep_head h e A C S R ba bn bc hbn hst hps he1 he2
/-- A step of a script. -/
structure StD where
  kd : Int
  e : Int
  S : List UInt8
  R : List UInt8
  ba : Option Addr
  bn : Nat
  bc : Nat
  A : Int
  C : Int
/-- What one step of the script holds. -/
def StAtP (w : World) (a : Addr) (i : Nat) (z : StD) : Prop :=
  (w.cell? (a.add (i * 7)) = some (.int .i64 z.kd) ∧ w.cell? (a.add (i * 7 + 1)) = some (.int .i64 z.e) ∧ w.cell? (a.add (i * 7 + 2)) = some (strV z.S) ∧ w.cell? (a.add (i * 7 + 3)) = some (strV z.R) ∧ w.cell? (a.add (i * 7 + 4)) = some (.slice z.ba z.bn z.bc) ∧ w.cell? (a.add (i * 7 + 5)) = some (.int .i64 z.A) ∧ w.cell? (a.add (i * 7 + 6)) = some (.int .i64 z.C)) ∧ -9223372036854775808 ≤ z.e ∧ z.e < 9223372036854775808
/-- A script that can be read. -/
def StepsIs (w : World) (v : Value) (zs : List StD) : Prop :=
  (v = .slice none 0 0 ∧ zs = []) ∨ ∃ (a : Addr) (cap : Nat), v = .slice (some a) zs.length cap ∧ zs.length ≤ 1599999999999 ∧ ∀ i z, zs[i]? = some z → StAtP w a i z
theorem StepsIs.below {w w' : World} {v : Value} {zs : List StD} (h : StepsIs w v zs) (hb : Below w.heap.size w w') : StepsIs w' v zs := by
  rcases h with h | ⟨a, cap, h1, h2, h3⟩
  · exact .inl h
  · refine .inr ⟨a, cap, h1, h2, fun i z hi => ?_⟩
    obtain ⟨⟨c0, c1, c2, c3, c4, c5, c6⟩, e1, e2⟩ := h3 i z hi
    have up : ∀ {p : Addr} {u : Value}, w.cell? p = some u → w'.cell? p = some u := fun {p u} hc => (hb.cell (World.block_lt_of_cell? _ _ hc)).trans hc
    exact ⟨⟨up c0, up c1, up c2, up c3, up c4, up c5, up c6⟩, e1, e2⟩
/-- The same, at plain places. -/
def StPl (w : World) (b o m : Nat) (z : StD) : Prop :=
  w.cell? ⟨b, o + m * 7, none⟩ = some (.int .i64 z.kd) ∧ w.cell? ⟨b, o + m * 7 + 1, none⟩ = some (.int .i64 z.e) ∧ w.cell? ⟨b, o + m * 7 + 2, none⟩ = some (strV z.S) ∧ w.cell? ⟨b, o + m * 7 + 3, none⟩ = some (strV z.R) ∧ w.cell? ⟨b, o + m * 7 + 4, none⟩ = some (.slice z.ba z.bn z.bc) ∧ w.cell? ⟨b, o + m * 7 + 5, none⟩ = some (.int .i64 z.A) ∧ w.cell? ⟨b, o + m * 7 + 6, none⟩ = some (.int .i64 z.C)
theorem StPl.below {w w' : World} {b o m : Nat} {z : StD} (h : StPl w b o m z) {N : Nat} (hl : b < N) (hb : Below N w w') : StPl w' b o m z := by
  obtain ⟨c0, c1, c2, c3, c4, c5, c6⟩ := h
  have up : ∀ {k : Nat} {v : Value}, w.cell? ⟨b, k, none⟩ = some v → w'.cell? ⟨b, k, none⟩ = some v := fun {k v} hc => (hb.cell hl).trans hc
  exact ⟨up c0, up c1, up c2, up c3, up c4, up c5, up c6⟩
theorem step_at {w wr : World} {va : Option Addr} {vc : Nat} {zs : List StD} (h : StepsIs w (.slice va zs.length vc) zs) (hb : Below w.heap.size w wr) {m : Nat} {z : StD} (hz : zs[m]? = some z) : ∃ b o, va = some ⟨b, o, none⟩ ∧ b < wr.heap.size ∧ StPl wr b o m z ∧ -9223372036854775808 ≤ z.e ∧ z.e < 9223372036854775808 := by
  rcases h with ⟨_, rfl⟩ | ⟨a, cap, h1, _, h3⟩
  · simp at hz
  · injection h1 with h1
    subst h1
    obtain ⟨⟨c0, c1, c2, c3, c4, c5, c6⟩, e1, e2⟩ := h3 m z hz
    obtain ⟨b, o, sp⟩ := a
    have hsp : sp = none := by
      have hm := (List.getElem?_eq_some_iff.1 hz).1
      obtain ⟨⟨d0, _⟩, _⟩ := h3 0 zs[0] (List.getElem?_eq_getElem (by omega))
      have := World.cell?_spot d0
      simpa [Addr.add] using this
    subst hsp
    rw [Go.WideShapes.add_plain] at c0 c1 c2 c3 c4 c5 c6
    have hbl : b < w.heap.size := World.block_lt_of_cell? _ _ c0
    exact ⟨b, o, rfl, Nat.lt_of_lt_of_le hbl hb.size, StPl.below ⟨c0, c1, c2, c3, c4, c5, c6⟩ hbl hb, e1, e2⟩
/-- The world that plays begins with. -/
theorem inv_first {w : World} {o : Obj} (hs : SignsIn w) (ht : TabP w) (h5 : 5 ≤ w.heap.size) (ho : o = .cells #[.slice none 0 0, .slice none 0 0, .slice none 0 0, .slice none 0 0, .slice none 0 0, .int .i64 0] 107) :
    WInv w w.heap.size (w.alloc o) (fun k => if k = w.heap.size then 1 else 0) ⟨w.heap.size, .slice none 0 0, .slice none 0 0, .slice none 0 0, .slice none 0 0, .slice none 0 0, 0, [], [], []⟩ := by
  have hb : Below w.heap.size w (w.alloc o) := (Below.refl _ _).alloc (Nat.le_refl _) _
  refine ⟨⟨?_, World.ownsRow_nil _ _ _ _, World.ownsRow_nil _ _ _ _, World.ownsRow_nil _ _ _ _, World.ownsRow_nil _ _ _ _, (fun e he => by cases he), (fun e he => by cases he), ht.same (fun x hx => hb.block x (by omega)), h5, Nat.zero_le _, Nat.le_refl _, Nat.le_refl _, (fun e he => by cases he), (fun e he => by cases he)⟩, World.ownsRow_nil _ _ _ _, (fun k hk => by cases hk), ?_, (fun e he => by cases he), (fun i p hp => by simp at hp), ?_, hs.below hb, by simp, Nat.le_refl _, ?_, hb⟩
  · rw [ho]; exact heap_alloc_new _ _
  · intro k hk
    rcases hk with rfl | hk | hk | hk | hk | hk
    · exact if_pos rfl
    all_goals cases hk
  · intro k hk
    exact if_neg (by omega)
  · intro k hk
    by_cases e : k = w.heap.size
    · omega
    · exact absurd (if_neg e) hk
end Go.Proofs.YtjmcokcdaddpcaaGreatDoor
