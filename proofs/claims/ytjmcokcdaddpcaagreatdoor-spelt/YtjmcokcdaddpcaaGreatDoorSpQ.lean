import Derived.Test.YtjmcokcdaddpcaaGreatDoorPureB
import Derived.Test.YtjmcokcdaddpcaaGreatDoorSpP
import Derived.KernelRfl
/- The tokens of the spelt texts: no program in it. -/
namespace Dsr
def kindOf (w : List UInt8) : Nat := if wordB w then wordKind w else if signOf w < 5 then 9 else oneKind (w.take 1)
def ruleOf (w : List UInt8) : Nat := if wordB w then 0 else if signOf w < 5 then signOf w else 0
/-- Tokens by their words, their places by their numbers. -/
def withPos (p : Nat → Nat) : Nat → List (List UInt8) → List Tok
  | _, [] => []
  | i, w :: ws => ⟨kindOf w, ruleOf w, p i, w⟩ :: withPos p (i + 1) ws
/-- All tokens, the lines turned. -/
def allT (turn : Nat) : List (List UInt8) := (List.range 7).flatMap fun i => lineAt ((i + turn) % 7)
def insT (turn bad : Nat) : List (List UInt8) := (allT turn).take bad ++ [61] :: (allT turn).drop bad
theorem stray_all (n : Nat) (p : Nat → Nat) : ((List.range 7).map fun turn => (List.range 35).map fun bad => ((readL (endT n) (withPos p 0 (insT turn bad))).fErr, (readL (endT n) (withPos p 0 (insT turn bad))).fAt)) = (List.range 7).map fun _ => (List.range 35).map fun bad => (2, p bad) := by kernel_rfl
theorem stray_at (n : Nat) (p : Nat → Nat) (turn bad : Nat) (ht : turn < 7) (hb : bad < 35) : (readL (endT n) (withPos p 0 (insT turn bad))).fErr = 2 ∧ (readL (endT n) (withPos p 0 (insT turn bad))).fAt = p bad := by
  have h := congrArg (fun l => l[turn]?.bind fun m : List (Nat × Nat) => m[bad]?) (stray_all n p)
  simp [ht, hb] at h
  exact h
def evF : Ev := ⟨[102, 105, 108, 101], [[99, 108, 101, 114, 107], [98, 111, 115, 115]], false, true, true⟩
def evS : Ev := ⟨[115, 105, 103, 110], [[98, 111, 115, 115]], true, false, false⟩
def ru1 : Rl := ⟨[102, 105, 108, 101], [115, 105, 103, 110], 3⟩
def ru2 : Rl := ⟨[102, 105, 108, 101], [115, 105, 103, 110], 0⟩
def ru3 : Rl := ⟨[115, 105, 103, 110], [102, 105, 108, 101], 2⟩
def ru5 : Rl := ⟨[115, 105, 103, 110], [115, 105, 103, 110], 1⟩
theorem good_err (n : Nat) (p : Nat → Nat) (turn : Nat) (ht : turn < 7) : (readL (endT n) (withPos p 0 (allT turn))).fErr = 0 := by
  have h : ((List.range 7).map fun turn => (readL (endT n) (withPos p 0 (allT turn))).fErr) = (List.range 7).map fun _ => 0 := by kernel_rfl
  have h := congrArg (fun l => l[turn]?) h
  simpa [ht] using h
theorem good_name (n : Nat) (p : Nat → Nat) (turn : Nat) (ht : turn < 7) : wrongName (readL (endT n) (withPos p 0 (allT turn))).uses = none := by
  have h : ((List.range 7).map fun turn => wrongName (readL (endT n) (withPos p 0 (allT turn))).uses) = (List.range 7).map fun _ => none := by kernel_rfl
  have h := congrArg (fun l => l[turn]?) h
  simpa [ht] using h
theorem good_events (n : Nat) (p : Nat → Nat) (turn : Nat) (ht : turn < 7) : (readL (endT n) (withPos p 0 (allT turn))).events = if turn = 1 then [evS, evF] else [evF, evS] := by
  have h : ((List.range 7).map fun turn => (readL (endT n) (withPos p 0 (allT turn))).events) = (List.range 7).map fun turn => if turn = 1 then [evS, evF] else [evF, evS] := by kernel_rfl
  have h := congrArg (fun l => l[turn]?) h
  simpa [ht] using h
theorem good_rules (n : Nat) (p : Nat → Nat) (turn : Nat) (ht : turn < 7) : (readL (endT n) (withPos p 0 (allT turn))).rules = [ru1, ru2, ru3, ru1, ru5].drop (turn - 2) ++ [ru1, ru2, ru3, ru1, ru5].take (turn - 2) := by
  have h : ((List.range 7).map fun turn => (readL (endT n) (withPos p 0 (allT turn))).rules) = (List.range 7).map fun turn => [ru1, ru2, ru3, ru1, ru5].drop (turn - 2) ++ [ru1, ru2, ru3, ru1, ru5].take (turn - 2) := by kernel_rfl
  have h := congrArg (fun l => l[turn]?) h
  simpa [ht] using h
theorem good_perm (n : Nat) (p : Nat → Nat) (turn : Nat) (ht : turn < 7) : [evF, evS].Perm (readL (endT n) (withPos p 0 (allT turn))).events ∧ [ru2, ru1, ru1, ru3, ru5].Perm (readL (endT n) (withPos p 0 (allT turn))).rules := by
  rw [good_events n p turn ht, good_rules n p turn ht]
  refine ⟨?_, ?_⟩
  · split
    · exact List.Perm.swap _ _ _
    · exact List.Perm.refl _
  · have h1 : [ru1, ru2, ru3, ru1, ru5].Perm ([ru1, ru2, ru3, ru1, ru5].drop (turn - 2) ++ [ru1, ru2, ru3, ru1, ru5].take (turn - 2)) := by
      conv => lhs; rw [← List.take_append_drop (turn - 2) [ru1, ru2, ru3, ru1, ru5]]
      exact List.perm_append_comm
    exact ((List.Perm.swap ru1 ru2 [ru1, ru3, ru5]).trans (.cons _ (.cons _ (.swap ru3 ru1 [ru5])))).trans h1
/-- Blanks and a token, one behind the other. -/
abbrev Prs := List (List UInt8 × List UInt8)
def flat (P : Prs) : List UInt8 := P.flatMap fun x => x.1 ++ x.2
def toksOf : Prs → Nat → List Tok
  | [], _ => []
  | x :: P, n => ⟨kindOf x.2, ruleOf x.2, n + x.1.length, x.2⟩ :: toksOf P (n + x.1.length + x.2.length)
/-- A token's bytes. -/
def TkB (w : List UInt8) : Prop := (wordB w = true ∧ ∀ c ∈ w, wordy c = true) ∨ (∃ k, k < 5 ∧ w = signs.getD k []) ∨ w = [44] ∨ w = [59] ∨ w = [61]
def GoodP : Bool → Prs → Prop
  | _, [] => True
  | b, x :: P => (∀ c ∈ x.1, blank c = true) ∧ TkB x.2 ∧ (b = true → wordB x.2 = true → x.1 ≠ []) ∧ GoodP (wordB x.2) P
theorem blankLen_app : ∀ (g l : List UInt8), (∀ c ∈ g, blank c = true) → (∀ c m, l = c :: m → blank c = false) → blankLen (g ++ l) = g.length
  | [], [], _, _ => rfl
  | [], c :: m, _, h => by simp [blankLen, h c m rfl]
  | c :: g, l, hg, h => by
    rw [List.cons_append, blankLen, if_pos (hg c (by simp)), blankLen_app g l (fun x hx => hg x (by simp [hx])) h]; rfl
theorem wordLen_app : ∀ (g l : List UInt8), (∀ c ∈ g, wordy c = true) → (∀ c m, l = c :: m → wordy c = false) → wordLen (g ++ l) = g.length
  | [], [], _, _ => rfl
  | [], c :: m, _, h => by simp [wordLen, h c m rfl]
  | c :: g, l, hg, h => by
    rw [List.cons_append, wordLen, if_pos (hg c (by simp)), wordLen_app g l (fun x hx => hg x (by simp [hx])) h]; rfl
theorem letter_blank {c : UInt8} (h : letter c = true) : blank c = false := by
  unfold letter at h; unfold blank
  simp at h ⊢; omega
theorem blank_wordy {c : UInt8} (h : blank c = true) : wordy c = false := by
  unfold blank at h; unfold wordy letter digit
  simp at h ⊢; omega
theorem tk_head {w : List UInt8} (h : TkB w) : ∃ c m, w = c :: m ∧ blank c = false ∧ (wordB w = false → wordy c = false) := by
  rcases h with ⟨h1, h2⟩ | ⟨k, hk, rfl⟩ | rfl | rfl | rfl
  · rcases w with _ | ⟨c, m⟩
    · simp [wordB] at h1
    · exact ⟨c, m, rfl, letter_blank h1, fun h => by rw [h1] at h; cases h⟩
  · rcases k with _ | _ | _ | _ | _ | k
    · exact ⟨_, _, rfl, by decide, fun _ => by decide⟩
    · exact ⟨_, _, rfl, by decide, fun _ => by decide⟩
    · exact ⟨_, _, rfl, by decide, fun _ => by decide⟩
    · exact ⟨_, _, rfl, by decide, fun _ => by decide⟩
    · exact ⟨_, _, rfl, by decide, fun _ => by decide⟩
    · omega
  · exact ⟨_, _, rfl, by decide, fun _ => by decide⟩
  · exact ⟨_, _, rfl, by decide, fun _ => by decide⟩
  · exact ⟨_, _, rfl, by decide, fun _ => by decide⟩
theorem scanAt_tk {w rest : List UInt8} (n : Nat) (h : TkB w) (hr : wordB w = true → ∀ c m, rest = c :: m → wordy c = false) : scanAt (w ++ rest) n = ⟨kindOf w, ruleOf w, n, w⟩ := by
  rcases h with ⟨h1, h2⟩ | ⟨k, hk, rfl⟩ | rfl | rfl | rfl
  · rcases w with _ | ⟨c, m⟩
    · simp [wordB] at h1
    · have hl := wordLen_app (c :: m) rest h2 (hr h1)
      rw [List.cons_append]
      show (if letter c = true then scanWord (c :: m ++ rest) n else scanSign (c :: m ++ rest) n) = _
      rw [if_pos (show letter c = true from h1)]
      unfold scanWord kindOf ruleOf
      rw [hl, List.take_left, if_pos h1, if_pos h1]
  · rcases k with _ | _ | _ | _ | _ | k
    · rfl
    · rfl
    · rfl
    · rfl
    · rfl
    · omega
  · rfl
  · rfl
  · rfl
theorem flat_cons (x : List UInt8 × List UInt8) (P : Prs) : flat (x :: P) = x.1 ++ (x.2 ++ flat P) := by simp [flat]
theorem lst_flat (t : List UInt8) : ∀ (P : Prs) (b : Bool) (n : Nat), GoodP b P → t.drop n = flat P → n + (flat P).length = t.length → Lst t n (toksOf P n)
  | [], _, n, _, hd, hl => by
    have : n = t.length := by simpa [flat] using hl
    subst this
    exact lst_end t
  | x :: P, b, n, hg, hd, hl => by
    obtain ⟨h1, h2, h3, h4⟩ := hg
    rw [flat_cons] at hd hl
    obtain ⟨c, m, hw, hb, hn⟩ := tk_head h2
    have hbl : blankLen (t.drop n) = x.1.length := by
      rw [hd]
      exact blankLen_app _ _ h1 (fun c' m' e => by rw [hw] at e; cases e; exact hb)
    have hd2 : t.drop (n + x.1.length) = x.2 ++ flat P := by rw [← List.drop_drop, hd, List.drop_left]
    have hd3 : t.drop (n + x.1.length + x.2.length) = flat P := by rw [← List.drop_drop, hd2, List.drop_left]
    refine ⟨?_, lst_flat t P (wordB x.2) (n + x.1.length + x.2.length) h4 hd3 (by simp only [List.length_append] at hl; omega)⟩
    unfold scan
    rw [hbl, hd2]
    refine scanAt_tk _ h2 ?_
    intro hwb c' m' e
    rcases P with _ | ⟨y, P⟩
    · simp [flat] at e
    · obtain ⟨g1, g2, g3, _⟩ := h4
      rw [flat_cons] at e
      rcases hy : y.1 with _ | ⟨d, gd⟩
      · rw [hy] at e
        obtain ⟨c2, m2, hw2, hb2, hn2⟩ := tk_head g2
        rw [hw2] at e
        cases e
        refine hn2 ?_
        rcases hwy : wordB y.2 with _ | _
        · rfl
        · exact absurd hy (g3 hwb hwy)
      · rw [hy] at e
        cases e
        exact blank_wordy (g1 _ (by rw [hy]; simp))
/-- Their places, by their numbers. -/
def posOf (P : Prs) (n : Nat) (i : Nat) : Nat := n + (flat (P.take i)).length + ((P[i]?).map (fun x => x.1.length)).getD 0
theorem withPos_congr (p q : Nat → Nat) : ∀ (ws : List (List UInt8)) (i j : Nat), (∀ k, k < ws.length → p (i + k) = q (j + k)) → withPos p i ws = withPos q j ws
  | [], _, _, _ => rfl
  | w :: ws, i, j, h => by
    unfold withPos
    rw [withPos_congr p q ws (i + 1) (j + 1) (fun k hk => by have := h (k + 1) (by simp; omega); rw [Nat.add_assoc, Nat.add_comm 1 k, Nat.add_assoc, Nat.add_comm 1 k]; exact this)]
    have := h 0 (by simp)
    rw [Nat.add_zero, Nat.add_zero] at this
    rw [this]
theorem toksOf_pos : ∀ (P : Prs) (n : Nat), toksOf P n = withPos (posOf P n) 0 (P.map (·.2))
  | [], _ => rfl
  | x :: P, n => by
    show _ = _ :: withPos (posOf (x :: P) n) (0 + 1) (P.map (·.2))
    rw [toksOf, toksOf_pos P]
    have h0 : n + x.1.length = posOf (x :: P) n 0 := by simp [posOf, flat]
    rw [h0]
    congr 1
    refine withPos_congr _ _ _ _ _ (fun k _ => ?_)
    rw [← h0]
    unfold posOf
    rw [show 0 + 1 + k = k + 1 by omega, Nat.zero_add]
    simp [flat]
    omega
/-- The pairs of a spelt text. -/
def sepOf (wd : Bool) (w : List UInt8) : List UInt8 := if wd && wordB w then [32] else []
def prs (g : Nat → List UInt8) (bad : Int) : Nat → Bool → List (List UInt8) → Prs
  | _, _, [] => []
  | n, wd, w :: ts => (if (n : Int) = bad then [(g n ++ sepOf wd w, [61]), ([], w)] else [(g n ++ sepOf wd w, w)]) ++ prs g bad (n + 1) (wordB w) ts
theorem prs_cons (g : Nat → List UInt8) (bad : Int) (n : Nat) (wd : Bool) (w : List UInt8) (ts : List (List UInt8)) : prs g bad n wd (w :: ts) = (if (n : Int) = bad then [(g n ++ sepOf wd w, [61]), ([], w)] else [(g n ++ sepOf wd w, w)]) ++ prs g bad (n + 1) (wordB w) ts := rfl
theorem sep_blank {wd : Bool} {w : List UInt8} : ∀ c ∈ sepOf wd w, blank c = true := by
  unfold sepOf
  split
  · intro c hc; simp at hc; subst hc; rfl
  · simp
theorem prs_good {g : Nat → List UInt8} (hg : ∀ n, ∀ c ∈ g n, blank c = true) {bad : Int} : ∀ (ts : List (List UInt8)) (n : Nat) (wd : Bool), (∀ w ∈ ts, TkB w) → GoodP wd (prs g bad n wd ts)
  | [], _, _, _ => trivial
  | w :: ts, n, wd, h => by
    have hb : ∀ c ∈ g n ++ sepOf wd w, blank c = true := fun c hc => by
      rcases List.mem_append.1 hc with hc | hc
      · exact hg n c hc
      · exact sep_blank c hc
    have ih := prs_good hg (bad := bad) ts (n + 1) (wordB w) (fun x hx => h x (by simp [hx]))
    unfold prs
    split
    · refine ⟨hb, .inr (.inr (.inr (.inr rfl))), fun _ h => (by simp [wordB, letter] at h), ?_, h w (by simp), fun h => (by simp [wordB, letter] at h), ih⟩
      simp
    · refine ⟨hb, h w (by simp), fun h1 h2 => ?_, ih⟩
      simp only at h2
      simp [sepOf, h1, h2]
theorem line_eq (g : Nat → List UInt8) (bad : Int) : ∀ (ts : List (List UInt8)) (st : SS), (spLine g bad st ts).s = st.s ++ flat (prs g bad st.n st.word ts)
  | [], st => by simp [spLine, prs, flat]
  | w :: ts, st => by
    have ih := line_eq g bad ts (spStep g bad st w)
    show (spLine g bad (spStep g bad st w) ts).s = _
    rw [ih, prs_cons]
    show (st.s ++ g st.n ++ sepOf st.word w ++ (if (st.n : Int) = bad then [61] else []) ++ w) ++ flat (prs g bad (st.n + 1) (wordB w) ts) = _
    split <;> simp [flat]
theorem line_past (g : Nat → List UInt8) (bad : Int) : ∀ (ts : List (List UInt8)) (st : SS), bad < st.n → (spLine g bad st ts).at_ = st.at_
  | [], st, _ => rfl
  | w :: ts, st, h => by
    have ih := line_past g bad ts (spStep g bad st w) (by show bad < ((st.n + 1 : Nat) : Int); omega)
    show (spLine g bad (spStep g bad st w) ts).at_ = _
    rw [ih]
    show (if (st.n : Int) = bad then _ else st.at_) = st.at_
    rw [if_neg (by omega)]
theorem line_at (g : Nat → List UInt8) (bad : Nat) : ∀ (ts : List (List UInt8)) (st : SS), st.n ≤ bad → bad < st.n + ts.length → (spLine g bad st ts).at_ = posOf (prs g bad st.n st.word ts) st.s.length (bad - st.n)
  | [], st, h1, h2 => by simp at h2; omega
  | w :: ts, st, h1, h2 => by
    show (spLine g bad (spStep g bad st w) ts).at_ = _
    by_cases hb : (st.n : Int) = (bad : Int)
    · rw [line_past g bad ts _ (by show (bad : Int) < ((st.n + 1 : Nat) : Int); omega)]
      have : bad - st.n = 0 := by omega
      rw [this, prs_cons]
      show (if (st.n : Int) = bad then (st.s ++ g st.n ++ sepOf st.word w).length else _) = _
      rw [if_pos hb, if_pos hb]
      simp [flat, posOf]
    · have ih := line_at g bad ts (spStep g bad st w) (by show st.n + 1 ≤ bad; omega) (by show bad < st.n + 1 + ts.length; simp at h2; omega)
      rw [ih]
      have e : bad - st.n = (bad - (st.n + 1)) + 1 := by omega
      rw [prs_cons, if_neg hb, e]
      show posOf (prs g bad (st.n + 1) (wordB w) ts) (st.s ++ g st.n ++ sepOf st.word w ++ (if (st.n : Int) = bad then [61] else []) ++ w).length (bad - (st.n + 1)) = _
      rw [if_neg hb]
      generalize bad - (st.n + 1) = k
      generalize prs g bad (st.n + 1) (wordB w) ts = P
      simp [flat, posOf]
      omega
theorem prs_words (g : Nat → List UInt8) (bad : Nat) : ∀ (ts : List (List UInt8)) (n : Nat) (wd : Bool), n ≤ bad → bad < n + ts.length → (prs g bad n wd ts).map (·.2) = ts.take (bad - n) ++ [61] :: ts.drop (bad - n)
  | [], n, wd, h1, h2 => by simp at h2; omega
  | w :: ts, n, wd, h1, h2 => by
    have past : ∀ (ts : List (List UInt8)) (m : Nat) (wd : Bool), bad < m → (prs g bad m wd ts).map (·.2) = ts := by
      intro ts
      induction ts with
      | nil => intros; rfl
      | cons w ts ih =>
        intro m wd hm
        unfold prs
        rw [if_neg (by omega)]
        simp [ih (m + 1) (wordB w) (by omega)]
    unfold prs
    by_cases hb : (n : Int) = (bad : Int)
    · rw [if_pos hb]
      have : bad - n = 0 := by omega
      rw [this]
      simp [past ts (n + 1) (wordB w) (by omega)]
    · rw [if_neg hb]
      have e : bad - n = (bad - (n + 1)) + 1 := by omega
      have ih := prs_words g bad ts (n + 1) (wordB w) (by omega) (by simp at h2; omega)
      rw [e]
      simp [ih]
theorem prs_none (g : Nat → List UInt8) : ∀ (ts : List (List UInt8)) (n : Nat) (wd : Bool), (prs g (-1) n wd ts).map (·.2) = ts
  | [], _, _ => rfl
  | w :: ts, n, wd => by
    unfold prs
    rw [if_neg (by omega)]
    simp [prs_none g ts (n + 1) (wordB w)]
theorem spAll_eq (g : Nat → List UInt8) (bad : Int) (turn : Nat) : spAll g bad turn 7 = spLine g bad ⟨[], 0, 0, false⟩ (allT turn) := by
  have h : ∀ i, spAll g bad turn i = spLine g bad ⟨[], 0, 0, false⟩ ((List.range i).flatMap fun i => lineAt ((i + turn) % 7)) := by
    intro i
    induction i with
    | zero => rfl
    | succ i ih =>
      rw [List.range_succ, List.flatMap_append]
      unfold spLine at ih ⊢
      rw [List.foldl_append, ← ih]
      simp [spAll, spLine]
  exact h 7
theorem tk_of_line : ∀ j, j < 7 → ∀ w ∈ lineAt j, (wordB w = true ∧ ∀ c ∈ w, wordy c = true) ∨ w ∈ signs ∨ w = [44] ∨ w = [59] := by decide +kernel
theorem allT_tk (turn : Nat) : ∀ w ∈ allT turn, TkB w := by
  intro w hw
  obtain ⟨i, _, h⟩ := List.mem_flatMap.1 hw
  rcases tk_of_line _ (Nat.mod_lt _ (by decide)) w h with h | h | h | h
  · exact .inl h
  · refine .inr (.inl ?_)
    obtain ⟨k, hk, e⟩ := List.getElem_of_mem h
    exact ⟨k, hk, by rw [← e]; simp [hk]⟩
  · exact .inr (.inr (.inl h))
  · exact .inr (.inr (.inr (.inl h)))
theorem allT_len : ∀ turn, turn < 7 → (allT turn).length = 35 := by decide +kernel
/-- The good text is read as its tokens. -/
theorem good_read {g : Nat → List UInt8} (hg : ∀ n, ∀ c ∈ g n, blank c = true) (turn : Nat) : ∃ p, readR (spAll g (-1) turn 7).s = readL (endT (spAll g (-1) turn 7).s.length) (withPos p 0 (allT turn)) := by
  have e : (spAll g (-1) turn 7).s = flat (prs g (-1) 0 false (allT turn)) := by rw [spAll_eq, line_eq]; rfl
  refine ⟨posOf (prs g (-1) 0 false (allT turn)) 0, ?_⟩
  rw [readR_eq (lst_flat _ (prs g (-1) 0 false (allT turn)) false 0 (prs_good hg _ _ _ (allT_tk turn)) (by rw [e]; rfl) (by rw [e]; omega)), toksOf_pos, prs_none]
/-- The text with the stray byte. -/
theorem bad_read {g : Nat → List UInt8} (hg : ∀ n, ∀ c ∈ g n, blank c = true) (turn bad : Nat) (ht : turn < 7) (hb : bad < 35) :
    (readR (spAll g bad turn 7).s).fErr = 2 ∧ (readR (spAll g bad turn 7).s).fAt = (spAll g bad turn 7).at_ := by
  have e : (spAll g bad turn 7).s = flat (prs g bad 0 false (allT turn)) := by rw [spAll_eq, line_eq]; rfl
  have hat : (spAll g bad turn 7).at_ = posOf (prs g bad 0 false (allT turn)) 0 bad := by
    rw [spAll_eq]
    exact line_at g bad (allT turn) ⟨[], 0, 0, false⟩ (Nat.zero_le _) (by rw [allT_len turn ht]; show bad < 0 + 35; omega)
  rw [readR_eq (lst_flat _ (prs g bad 0 false (allT turn)) false 0 (prs_good hg _ _ _ (allT_tk turn)) (by rw [e]; rfl) (by rw [e]; omega)), toksOf_pos, prs_words g bad (allT turn) 0 false (Nat.zero_le _) (by rw [allT_len turn ht]; omega), hat]
  exact stray_at _ _ turn bad ht hb
end Dsr
