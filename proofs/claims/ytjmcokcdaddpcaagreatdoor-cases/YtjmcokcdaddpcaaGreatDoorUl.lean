import Derived.Test.YtjmcokcdaddpcaaGreatDoorUi
import Derived.Test.YtjmcokcdaddpcaaGreatDoorUa
set_option linter.unusedVariables false
set_option linter.unusedSimpArgs false
namespace Go.Proofs.YtjmcokcdaddpcaaGreatDoor
open Go.RowKit
theorem parseP_none {t : List UInt8} {fe fa : Nat} (h : ParseP t fe fa none) : fe ≠ 0 := by
  rcases h with ⟨_, h, _⟩ | ⟨_, ts, _, ⟨l, a, _, _, _, _, h⟩ | ⟨l, _, ⟨a, _, h, _⟩ | ⟨_, x, _, ⟨_, h, _⟩ | ⟨_, _, _, h⟩⟩⟩⟩
  · omega
  · exact h
  · omega
  · omega
  · cases h
theorem parseP_some {t : List UInt8} {fe fa : Nat} {l : LK} (h : ParseP t fe fa (some l)) : fe = 0 ∧ fa = 0 := by
  rcases h with ⟨_, _, _, h⟩ | ⟨_, ts, _, ⟨l, a, _, _, _, h, _⟩ | ⟨l, _, ⟨a, _, _, _, h⟩ | ⟨_, x, _, ⟨_, _, _, h⟩ | ⟨_, h, h', _⟩⟩⟩⟩
  · cases h
  · cases h
  · cases h
  · cases h
  · exact ⟨h, h'⟩
def RPrintP (t out : List UInt8) (fe fa : Nat) : Prop := (ParseP t fe fa none ∧ out = []) ∨ ∃ l, ParseP t fe fa (some l) ∧ TextOf l out
set_option maxRecDepth 100000 in
set_option maxHeartbeats 3200000 in
theorem rPrint_any (t : ByteArray) (w : World) :
    Calls Tryz.prog 41 #[.string t] w fun e w' => ∃ out fe fa, e = .returned (.tuple #[strV out, .int .i64 (fe : Nat), .int .i64 (fa : Nat)]) ∧ RPrintP t.data.toList out fe fa ∧ Below w.heap.size w w' := by
  go_enter Tryz.func41, Tryz.ntmps41
  go_wp2_with fail
  refine (rParse_any t w).mono ?_
  rintro e w1 ⟨pv, fe, fa, ol, rfl, hP, hV, hb⟩
  have HB : Hid (Below w.heap.size w w1) := hb
  rcases ol with _ | l
  · obtain rfl := hV.1 rfl
    have hfe := parseP_none hP
    have hfb : ((fe : Int) != 0) = true := by simp; omega
    have HP : Hid (ParseP t.data.toList fe fa none) := hP
    clear hP hV hb hfe
    go_wp2_with fail
    go_ret3
    exact ⟨[], fe, fa, rfl, .inl ⟨HP.out, rfl⟩, HB.out⟩
  · obtain ⟨B, b, s, hB, rfl, hl, hsm⟩ := hV.2 l rfl
    obtain ⟨rfl, rfl⟩ := parseP_some hP
    have HP : Hid (ParseP t.data.toList 0 0 (some l) ∧ LkAt B b w1 l s ∧ LSm l) := ⟨hP, hl, hsm⟩
    clear hP hV hb hl hsm
    go_wp2_with fail
    refine (rText_any HP.out.2.1 HP.out.2.2).mono ?_
    rintro e w2 ⟨x, rfl, hx, hxl, b2⟩
    have HX : Hid (TextOf l x ∧ Below w.heap.size w w2) := ⟨hx, HB.out.trans (b2.mono HB.out.size)⟩
    clear hx b2
    go_wp2_with fail
    go_ret3
    exact ⟨x, 0, 0, rfl, .inr ⟨l, HP.out.1, HX.out.1⟩, HX.out.2⟩
end Go.Proofs.YtjmcokcdaddpcaaGreatDoor
set_option linter.unusedVariables false
set_option linter.unusedSimpArgs false
namespace Go.Proofs.YtjmcokcdaddpcaaGreatDoor
open Go.RowKit
/-! Tokens by their kinds. -/
structure TG (k : Dsr.Tok) : Prop where
  ev : isEvent k = decide (k.kind = 2)
  nm : isName k = decide (k.kind = 1)
  by_ : (isW k = true ∧ k.text = [98, 121]) ↔ k.kind = 3
  out : k.text = [111, 117, 116] ↔ k.kind = 4
  due : k.text = [100, 117, 101] ↔ k.kind = 5
  done : k.text = [100, 111, 110, 101] ↔ k.kind = 6
  com : k.text = [44] ↔ k.kind = 7
  sem : k.text = [59] ↔ k.kind = 8
  nil : k.text = [] ↔ k.kind = 10
  ru : k.kind = 9 → k.rule < 5
theorem wk_range (l : List UInt8) : 1 ≤ Dsr.wordKind l ∧ Dsr.wordKind l ≤ 6 := by
  unfold Dsr.wordKind
  repeat' split
  all_goals omega
theorem wk_iff (l : List UInt8) : (Dsr.wordKind l = 2 ↔ l = [101, 118, 101, 110, 116]) ∧ (Dsr.wordKind l = 3 ↔ l = [98, 121]) ∧ (Dsr.wordKind l = 4 ↔ l = [111, 117, 116]) ∧ (Dsr.wordKind l = 5 ↔ l = [100, 117, 101]) ∧ (Dsr.wordKind l = 6 ↔ l = [100, 111, 110, 101]) := by
  by_cases h1 : l = [101, 118, 101, 110, 116]
  · subst h1; decide
  by_cases h2 : l = [98, 121]
  · subst h2; decide
  by_cases h3 : l = [111, 117, 116]
  · subst h3; decide
  by_cases h4 : l = [100, 117, 101]
  · subst h4; decide
  by_cases h5 : l = [100, 111, 110, 101]
  · subst h5; decide
  unfold Dsr.wordKind
  simp [h1, h2, h3, h4, h5]
theorem word_tg {tx m : List UInt8} {c : UInt8} (at_ : Nat) (h : tx = c :: m) (hc : Dsr.letter c = true) : TG ⟨Dsr.wordKind tx, 0, at_, tx⟩ := by
  have hr := wk_range tx
  obtain ⟨w2, w3, w4, w5, w6⟩ := wk_iff tx
  have hw : isW ⟨Dsr.wordKind tx, 0, at_, tx⟩ = true := by simp [isW]; omega
  refine ⟨?_, ?_, ?_, w4.symm, w5.symm, w6.symm, ?_, ?_, ?_, ?_⟩
  · unfold isEvent; rw [hw, Bool.true_and, Bool.eq_iff_iff]; simp; exact w2.symm
  · unfold isName; rw [hw, Bool.true_and, Bool.eq_iff_iff]; simp
  · simp only [hw, true_and]; exact w3.symm
  · constructor
    · intro e; have e : tx = [44] := e; rw [h] at e; injection e with e _; subst e; exact absurd hc (by decide)
    · intro e; have e : Dsr.wordKind tx = 7 := e; omega
  · constructor
    · intro e; have e : tx = [59] := e; rw [h] at e; injection e with e _; subst e; exact absurd hc (by decide)
    · intro e; have e : Dsr.wordKind tx = 8 := e; omega
  · constructor
    · intro e; have e : tx = [] := e; rw [h] at e; cases e
    · intro e; have e : Dsr.wordKind tx = 10 := e; omega
  · intro e; have e : Dsr.wordKind tx = 9 := e; omega
theorem tg_at {k r a b : Nat} {t : List UInt8} (h : TG ⟨k, r, a, t⟩) : TG ⟨k, r, b, t⟩ := ⟨h.ev, h.nm, h.by_, h.out, h.due, h.done, h.com, h.sem, h.nil, h.ru⟩
theorem end_tg (n : Nat) : TG (Dsr.endT n) := tg_at (a := 0) ⟨rfl, rfl, by decide, by decide, by decide, by decide, by decide, by decide, by decide, by decide⟩
theorem sign_tg (at_ : Nat) : ∀ r, r < 5 → TG ⟨9, r, at_, Dsr.signs.getD r []⟩ := by
  intro r hr
  match r, hr with
  | 0, _ | 1, _ | 2, _ | 3, _ | 4, _ => exact tg_at (a := 0) ⟨rfl, rfl, by decide, by decide, by decide, by decide, by decide, by decide, by decide, by decide⟩
theorem one_tg (at_ : Nat) (c : UInt8) : TG ⟨Dsr.oneKind [c], 0, at_, [c]⟩ := by
  by_cases h1 : c = 44
  · subst h1; exact tg_at (a := 0) ⟨rfl, rfl, by decide, by decide, by decide, by decide, by decide, by decide, by decide, by decide⟩
  by_cases h2 : c = 59
  · subst h2; exact tg_at (a := 0) ⟨rfl, rfl, by decide, by decide, by decide, by decide, by decide, by decide, by decide, by decide⟩
  have h : Dsr.oneKind [c] = 0 := by unfold Dsr.oneKind; simp [h1, h2]
  rw [h]
  exact ⟨rfl, rfl, by simp [isW], by simp, by simp, by simp, by simp [h1], by simp [h2], by simp, by simp⟩
theorem scan_tg (t : List UInt8) (n : Nat) : TG (Dsr.scan t n) := by
  unfold Dsr.scan
  generalize n + Dsr.blankLen (t.drop n) = at_
  unfold Dsr.scanAt
  rcases hd : t.drop at_ with _ | ⟨c, m⟩
  · exact end_tg at_
  · show TG (if Dsr.letter c = true then Dsr.scanWord (c :: m) at_ else Dsr.scanSign (c :: m) at_)
    by_cases hc : Dsr.letter c = true
    · rw [if_pos hc]
      unfold Dsr.scanWord
      refine word_tg (m := (c :: m).take (Dsr.wordLen (c :: m)) |>.tail) (c := c) at_ ?_ hc
      have : Dsr.wordLen (c :: m) = Dsr.wordLen m + 1 := by
        unfold Dsr.wordLen
        rw [if_pos (by unfold Dsr.wordy; rw [hc]; rfl)]
        cases m <;> rfl
      rw [this]
      rfl
    · rw [if_neg hc]
      unfold Dsr.scanSign
      split
      · exact sign_tg at_ _ (by assumption)
      · exact one_tg at_ c
theorem lst_tg {t : List UInt8} : ∀ {ts : List Dsr.Tok} {n : Nat}, Dsr.Lst t n ts → ∀ k ∈ ts, TG k
  | [], _, _, k, hk => by simp at hk
  | a :: ts, n, h, k, hk => by
    obtain ⟨rfl, h2⟩ := h
    rcases List.mem_cons.1 hk with rfl | hk
    · exact scan_tg t n
    · exact lst_tg h2 k hk
end Go.Proofs.YtjmcokcdaddpcaaGreatDoor
set_option linter.unusedVariables false
set_option linter.unusedSimpArgs false
namespace Go.Proofs.YtjmcokcdaddpcaaGreatDoor
open Go.RowKit
/-! The reader that has refused. -/
def Bad (E : Dsr.Tok) (c a : Nat) (q : Dsr.QR) : Prop := q.1.fErr = c ∧ q.1.fAt = a ∧ q.1.now = E ∧ q.2 = []
section
variable {E : Dsr.Tok} {c a : Nat} {q : Dsr.QR}
theorem Bad.step (h : Bad E c a q) : Bad E c a (Dsr.stepL E q) := by
  obtain ⟨h1, h2, h3, h4⟩ := h
  exact ⟨h1, h2, by show q.2.headD E = E; rw [h4]; rfl, by show q.2.tail = []; rw [h4]; rfl⟩
theorem Bad.refuse (hc : c ≠ 0) (h : Bad E c a q) (e : Nat) : Bad E c a (Dsr.refuseL E q e) := by
  obtain ⟨h1, h2, h3, h4⟩ := h
  refine ⟨?_, ?_, rfl, rfl⟩
  · show (if q.1.fErr = 0 then e else q.1.fErr) = c; rw [if_neg (by rw [h1]; exact hc)]; exact h1
  · show (if q.1.fErr = 0 then q.1.now.at_ else q.1.fAt) = a; rw [if_neg (by rw [h1]; exact hc)]; exact h2
theorem Bad.kind (hE : E.kind = 10) (h : Bad E c a q) : q.1.now.kind = 10 := by rw [h.2.2.1]; exact hE
theorem Bad.takeIf (hE : E.kind = 10) (h : Bad E c a q) {k : Nat} (hk : k ≠ 10) : Bad E c a (Dsr.takeIfL E q k) := by
  unfold Dsr.takeIfL; rw [if_neg (by rw [h.kind hE]; exact fun e => hk e.symm)]; exact h
theorem Bad.take (hE : E.kind = 10) (hc : c ≠ 0) (h : Bad E c a q) {k : Nat} (hk : k ≠ 10) : Bad E c a (Dsr.takeL E q k) := by
  unfold Dsr.takeL; rw [if_neg (by rw [h.kind hE]; exact fun e => hk e.symm)]; exact h.refuse hc 2
theorem Bad.name (hE : E.kind = 10) (hc : c ≠ 0) (h : Bad E c a q) (x : Nat) : Bad E c a (Dsr.nameL E q x) := by
  unfold Dsr.nameL
  refine Bad.take hE hc ?_ (by decide)
  unfold Dsr.nameSizeL
  rw [if_neg (by unfold Dsr.bigName; rw [h.kind hE]; simp)]
  exact h
theorem Bad.rolesSize (hE : E.kind = 10) (h : Bad E c a q) (n : Nat) : Bad E c a (Dsr.rolesSizeL E q n) := by
  unfold Dsr.rolesSizeL
  rw [if_neg (by unfold Dsr.bigRoles; rw [h.kind hE]; simp)]
  exact h
theorem Bad.rolesLoop (hE : E.kind = 10) (h : Bad E c a q) (f : Nat) (l : List (List UInt8)) : Bad E c a (Dsr.rolesLoopL E f q l).1 := by
  cases f with
  | zero => exact h
  | succ f => unfold Dsr.rolesLoopL; rw [if_neg (by rw [h.kind hE]; decide)]; exact h
theorem Bad.mark (hE : E.kind = 10) (h : Bad E c a q) : Bad E c a (Dsr.markL E q) := ((h.takeIf hE (by decide)).takeIf hE (by decide)).takeIf hE (by decide)
theorem Bad.lines (hE : E.kind = 10) (h : Bad E c a q) (f : Nat) : Dsr.linesL E f q = q := by
  cases f with
  | zero => rfl
  | succ f => unfold Dsr.linesL; rw [if_pos (h.kind hE)]
theorem refuse_bad (hf : q.1.fErr = 0) (e : Nat) : Bad E e q.1.now.at_ (Dsr.refuseL E q e) := by
  refine ⟨?_, ?_, rfl, rfl⟩
  · show (if q.1.fErr = 0 then e else q.1.fErr) = e; rw [if_pos hf]
  · show (if q.1.fErr = 0 then q.1.now.at_ else q.1.fAt) = _; rw [if_pos hf]
theorem takeL_ok {k : Nat} (h : q.1.now.kind = k) : Dsr.takeL E q k = Dsr.stepL E q := by unfold Dsr.takeL; rw [if_pos h]
theorem takeL_bad {k : Nat} (h : ¬ q.1.now.kind = k) (hf : q.1.fErr = 0) : Bad E 2 q.1.now.at_ (Dsr.takeL E q k) := by unfold Dsr.takeL; rw [if_neg h]; exact refuse_bad hf 2
def useOf (q : Dsr.QR) (x : Nat) : Dsr.Us := ⟨x, q.1.events.length, q.1.now.text, q.1.now.at_⟩
theorem nameL_ok {x : Nat} (h1 : q.1.now.kind = 1) (h8 : ¬ 8 < q.1.now.text.length) : Dsr.nameL E q x = Dsr.stepL E (Dsr.useL q (q.1.uses ++ [useOf q x])) := by
  unfold Dsr.nameL Dsr.nameSizeL
  rw [if_neg (by unfold Dsr.bigName; simp [h8]), takeL_ok (by exact h1)]
  rfl
theorem nameL_not {x : Nat} (h1 : ¬ q.1.now.kind = 1) (hf : q.1.fErr = 0) : Bad E 2 q.1.now.at_ (Dsr.nameL E q x) := by
  unfold Dsr.nameL Dsr.nameSizeL
  rw [if_neg (by unfold Dsr.bigName; simp [h1])]
  exact takeL_bad (q := Dsr.useL q _) h1 hf
theorem nameL_big (hE : E.kind = 10) {x : Nat} (h1 : q.1.now.kind = 1) (h8 : 8 < q.1.now.text.length) (hf : q.1.fErr = 0) : Bad E 3 q.1.now.at_ (Dsr.nameL E q x) := by
  unfold Dsr.nameL Dsr.nameSizeL
  rw [if_pos (by unfold Dsr.bigName; simp [h1, h8])]
  refine Bad.take (k := 1) hE (by decide) ?_ (by decide)
  exact refuse_bad (E := E) hf 3
end
/-! The look's run over the reader's tokens. -/
def stream (E : Dsr.Tok) (q : Dsr.QR) : List Dsr.Tok := q.1.now :: (q.2 ++ [E])
theorem named_ok {l : LK} {k : Dsr.Tok} {room : Bool} {what want : Nat} (hT : TG k) (h1 : k.kind = 1) (hr : room = true) (h8 : ¬ 8 < k.text.length) : namedP l k room what want = { l with uses := l.uses ++ [⟨k, what, l.lines⟩], want := want } := by
  unfold namedP
  rw [if_neg (by rw [hT.nm, h1]; decide), if_neg (by unfold badSize; rw [hr]; simp; omega)]
theorem named_not {l : LK} {k : Dsr.Tok} {room : Bool} {what want : Nat} (hT : TG k) (h1 : ¬ k.kind = 1) : namedP l k room what want = { l with e := 2 } := by
  unfold namedP
  rw [if_pos (by rw [hT.nm]; simp [h1])]
theorem named_big {l : LK} {k : Dsr.Tok} {room : Bool} {what want : Nat} (hT : TG k) (h1 : k.kind = 1) (hb : room = false ∨ 8 < k.text.length) : namedP l k room what want = { l with e := 3 } := by
  unfold namedP
  rw [if_neg (by rw [hT.nm, h1]; decide), if_pos (by unfold badSize; rcases hb with h | h <;> simp [h])]
theorem run_err {l : LK} {k : Dsr.Tok} {S : List Dsr.Tok} (hn : ¬ (k.text = [] ∧ l.want = 0)) (he : (nextP l k).e ≠ 0) : runP l (k :: S) = (nextP l k, some k.at_) := by
  rw [runP, if_neg hn, if_pos he]
theorem run_go {l : LK} {k : Dsr.Tok} {S : List Dsr.Tok} (hn : ¬ (k.text = [] ∧ l.want = 0)) (he : (nextP l k).e = 0) : runP l (k :: S) = runP (nextP l k) S := by
  rw [runP, if_neg hn, if_neg (by rw [he]; decide)]
theorem run_stop {l : LK} {k : Dsr.Tok} {S : List Dsr.Tok} (h1 : k.text = []) (h2 : l.want = 0) : runP l (k :: S) = (l, none) := by rw [runP, if_pos ⟨h1, h2⟩]
theorem run_tail {l : LK} {n : Nat} {q : Dsr.QR} (hw : l.want ≤ 9) : runP l (q.2 ++ [Dsr.endT n]) = runP l (stream (Dsr.endT n) (Dsr.stepL (Dsr.endT n) q)) := by
  unfold stream Dsr.stepL
  rcases hq : q.2 with _ | ⟨k, S⟩
  · show runP l [Dsr.endT n] = runP l [Dsr.endT n, Dsr.endT n]
    by_cases h0 : l.want = 0
    · rw [run_stop rfl h0, run_stop rfl h0]
    · have he := nextP_end (l := l) (k := Dsr.endT n) rfl rfl rfl h0 hw
      rw [run_err (fun h => h0 h.2) he, run_err (fun h => h0 h.2) he]
  · rfl
/-- One token, nothing wrong. -/
theorem run_step {l : LK} {n : Nat} {q q' : Dsr.QR} (hn : ¬ (q.1.now.text = [] ∧ l.want = 0)) (he : (nextP l q.1.now).e = 0) (hw : (nextP l q.1.now).want ≤ 9) (hq : stream (Dsr.endT n) q' = stream (Dsr.endT n) (Dsr.stepL (Dsr.endT n) q)) :
    runP l (stream (Dsr.endT n) q) = runP (nextP l q.1.now) (stream (Dsr.endT n) q') := by
  rw [hq]
  show runP l (q.1.now :: (q.2 ++ [Dsr.endT n])) = _
  rw [run_go hn he, run_tail hw]
end Go.Proofs.YtjmcokcdaddpcaaGreatDoor
set_option linter.unusedVariables false
set_option linter.unusedSimpArgs false
namespace Go.Proofs.YtjmcokcdaddpcaaGreatDoor
open Go.RowKit
def toRl (r : RR) : Dsr.Rl := ⟨r.left, r.right, r.sign - 1⟩
abbrev Pr := RU × Dsr.Us
structure PS (ps : List Pr) : Prop where
  eq : ∀ p ∈ ps, p.1.what = p.2.as_ + 1 ∧ p.2.name = p.1.tk.text ∧ p.2.at_ = p.1.tk.at_ ∧ p.2.as_ ≤ 2
  ro : ∀ p ∈ ps, ∀ p' ∈ ps, p.2.as_ = 1 → p'.2.as_ = 1 → (p.1.line = p'.1.line ↔ p.2.event = p'.2.event)
def BI (ps : List Pr) (L J : Nat) : Prop := ∀ p ∈ ps, p.2.as_ = 1 → p.1.line ≤ L ∧ p.2.event ≤ J ∧ (p.1.line = L ↔ p.2.event = J)
def BO (ps : List Pr) (L J : Nat) : Prop := ∀ p ∈ ps, p.2.as_ = 1 → p.1.line ≤ L ∧ p.2.event < J
theorem PS.snoc0 {ps : List Pr} (h : PS ps) {p : Pr} (he : p.1.what = p.2.as_ + 1 ∧ p.2.name = p.1.tk.text ∧ p.2.at_ = p.1.tk.at_ ∧ p.2.as_ ≤ 2) (hp : p.2.as_ ≠ 1) : PS (ps ++ [p]) := by
  refine ⟨?_, ?_⟩
  · intro x hx
    rcases List.mem_append.1 hx with hx | hx
    · exact h.eq x hx
    · simp at hx; subst hx; exact he
  · intro x hx y hy h1 h2
    rcases List.mem_append.1 hx with hx | hx
    · rcases List.mem_append.1 hy with hy | hy
      · exact h.ro x hx y hy h1 h2
      · simp at hy; subst hy; exact absurd h2 hp
    · simp at hx; subst hx; exact absurd h1 hp
theorem BI.snoc0 {ps : List Pr} {L J : Nat} (h : BI ps L J) {p : Pr} (hp : p.2.as_ ≠ 1) : BI (ps ++ [p]) L J := by
  intro x hx h1
  rcases List.mem_append.1 hx with hx | hx
  · exact h x hx h1
  · simp at hx; subst hx; exact absurd h1 hp
theorem BO.snoc0 {ps : List Pr} {L J : Nat} (h : BO ps L J) {p : Pr} (hp : p.2.as_ ≠ 1) : BO (ps ++ [p]) L J := by
  intro x hx h1
  rcases List.mem_append.1 hx with hx | hx
  · exact h x hx h1
  · simp at hx; subst hx; exact absurd h1 hp
theorem BO.mono {ps : List Pr} {L L' J J' : Nat} (h : BO ps L J) (hL : L ≤ L') (hJ : J ≤ J') : BO ps L' J' := fun p hp h1 => ⟨Nat.le_trans (h p hp h1).1 hL, Nat.lt_of_lt_of_le (h p hp h1).2 hJ⟩
theorem BO.begin {ps : List Pr} {L J : Nat} (h : BO ps L J) : BI ps (L + 1) J := fun p hp h1 => by
  have := h p hp h1
  exact ⟨by omega, by omega, by omega⟩
theorem BI.stop {ps : List Pr} {L J : Nat} (h : BI ps L J) : BO ps L (J + 1) := fun p hp h1 => by
  have := h p hp h1
  exact ⟨this.1, by omega⟩
theorem PS.snoc1 {ps : List Pr} {L J : Nat} (h : PS ps) (hb : BI ps L J) {p : Pr} (he : p.1.what = p.2.as_ + 1 ∧ p.2.name = p.1.tk.text ∧ p.2.at_ = p.1.tk.at_ ∧ p.2.as_ ≤ 2) (hL : p.1.line = L) (hJ : p.2.event = J) : PS (ps ++ [p]) ∧ BI (ps ++ [p]) L J := by
  refine ⟨⟨?_, ?_⟩, ?_⟩
  · intro x hx
    rcases List.mem_append.1 hx with hx | hx
    · exact h.eq x hx
    · simp at hx; subst hx; exact he
  · intro x hx y hy h1 h2
    rcases List.mem_append.1 hx with hx1 | hx1
    · rcases List.mem_append.1 hy with hy1 | hy1
      · exact h.ro x hx1 y hy1 h1 h2
      · have e := List.mem_singleton.1 hy1; rw [e, hL, hJ]; exact (hb x hx1 h1).2.2
    · have e := List.mem_singleton.1 hx1; rw [e]
      rcases List.mem_append.1 hy with hy1 | hy1
      · rw [hL, hJ]
        have := (hb y hy1 h2).2.2
        constructor
        · intro e; exact (this.1 e.symm).symm
        · intro e; exact (this.2 e.symm).symm
      · have e' := List.mem_singleton.1 hy1; rw [e']; simp
  · intro x hx h1
    rcases List.mem_append.1 hx with hx | hx
    · exact hb x hx h1
    · simp at hx; subst hx; exact ⟨by omega, by omega, by omega⟩
structure EvL (evs : List Dsr.Ev) (ps : List Pr) : Prop where
  nm : evs.map (·.name) = (ps.filter (fun p => p.2.as_ == 0)).map (·.2.name)
  ro : ∀ j e, evs[j]? = some e → e.roles = (ps.filter (fun p => p.2.as_ == 1 && p.2.event == j)).map (·.2.name)
  ne : ∀ e ∈ evs, e.name ≠ [] ∧ ∀ r ∈ e.roles, r ≠ []
theorem EvL.snoc2 {evs : List Dsr.Ev} {ps : List Pr} (h : EvL evs ps) {p : Pr} (hp : p.2.as_ = 2) : EvL evs (ps ++ [p]) := by
  refine ⟨?_, ?_, h.ne⟩
  · rw [List.filter_append, h.nm]; simp [hp]
  · intro j e he
    rw [List.filter_append, h.ro j e he]; simp [hp]
structure Bd (l : LK) (rd : Dsr.Rd) (ps : List Pr) : Prop where
  ev : l.events = rd.events
  ru : rd.rules = l.rules.map toRl
  sg : ∀ r ∈ l.rules, 1 ≤ r.sign ∧ r.sign ≤ 5
  lu : l.uses = ps.map (·.1)
  us : rd.uses = ps.map (·.2)
  pok : PS ps
  bo : BO ps l.lines l.events.length
  el : EvL l.events ps
  rp : ∀ r ∈ l.rules, (∃ p ∈ ps, p.2.as_ = 2 ∧ p.2.name = r.left) ∧ ∃ p ∈ ps, p.2.as_ = 2 ∧ p.2.name = r.right
  ce : l.event = l.events.length
  cr : l.rule = l.rules.length
  le : l.e = 0
  rf : rd.fErr = 0
  w0 : l.want = 0
  e10 : l.events.length ≤ 10
  r20 : l.rules.length ≤ 20
def TGs (q : Dsr.QR) : Prop := TG q.1.now ∧ ∀ k ∈ q.2, TG k
theorem TGs.step {q : Dsr.QR} (h : TGs q) (n : Nat) : TGs (Dsr.stepL (Dsr.endT n) q) := by
  unfold Dsr.stepL TGs
  rcases hq : q.2 with _ | ⟨k, S⟩
  · exact ⟨end_tg n, by simp⟩
  · have := h.2
    rw [hq] at this
    exact ⟨this k (by simp), fun x hx => this x (by simp at hx ⊢; exact .inr hx)⟩
theorem TGs.use {q : Dsr.QR} (h : TGs q) (us : List Dsr.Us) : TGs (Dsr.useL q us) := h
def Err (E : Dsr.Tok) (q : Dsr.QR) (r : LK × Option Nat) : Prop := ∃ c a, c ≠ 0 ∧ Bad E c a q ∧ ∃ l', r = (l', some a) ∧ l'.e = c
def Good (E : Dsr.Tok) (q : Dsr.QR) (r : LK × Option Nat) (m : Nat) : Prop := ∃ l' ps', Bd l' q.1 ps' ∧ TGs q ∧ r = runP l' (stream E q) ∧ l'.events.length + l'.rules.length = m
theorem modLast_snoc {α : Type} (f : α → α) : ∀ (l : List α) (x : α), modLast f (l ++ [x]) = l ++ [f x] := by
  intro l x
  unfold modLast
  rw [List.length_append, List.length_singleton, Nat.add_sub_cancel]
  induction l with
  | nil => rfl
  | cons a l ih => simp only [List.cons_append, List.length_cons, List.modify_succ_cons]; rw [ih]
theorem err_of {n : Nat} {l : LK} {q q' : Dsr.QR} {c : Nat} (hc : c ≠ 0) (hn : ¬ (q.1.now.text = [] ∧ l.want = 0)) (he : (nextP l q.1.now).e = c) (hb : Bad (Dsr.endT n) c q.1.now.at_ q') : Err (Dsr.endT n) q' (runP l (stream (Dsr.endT n) q)) :=
  ⟨c, q.1.now.at_, hc, hb, nextP l q.1.now, run_err hn (by rw [he]; exact hc), he⟩
set_option maxHeartbeats 1600000 in
theorem rule_line {n : Nat} {l : LK} {q : Dsr.QR} {ps : List Pr} (hb : Bd l q.1 ps) (hT : TGs q) (h1 : q.1.now.kind = 1) :
    Err (Dsr.endT n) (Dsr.ruleL (Dsr.endT n) q) (runP l (stream (Dsr.endT n) q)) ∨ Good (Dsr.endT n) (Dsr.ruleL (Dsr.endT n) q) (runP l (stream (Dsr.endT n) q)) (l.events.length + l.rules.length + 1) := by
  have hE : (Dsr.endT n).kind = 10 := rfl
  have hne0 : ¬ (q.1.now.text = [] ∧ l.want = 0) := fun h => by have := hT.1.nil.1 h.1; omega
  have nx0 : nextP l q.1.now = { namedP { l with lines := l.lines + 1, rule := l.rule + 1 } q.1.now (decide (l.rule + 1 ≤ 20)) 3 8 with rules := l.rules ++ [⟨0, q.1.now.text, []⟩] } := by
    unfold nextP beginP
    rw [if_pos hb.w0, if_neg (by rw [hT.1.ev, h1]; decide)]
  by_cases h20 : q.1.rules.length = 20
  · left
    have e : Dsr.ruleL (Dsr.endT n) q = Dsr.refuseL (Dsr.endT n) q 3 := by unfold Dsr.ruleL; rw [if_pos h20]
    rw [e]
    refine err_of (by decide) hne0 ?_ (refuse_bad hb.rf 3)
    rw [nx0, named_big hT.1 h1 (.inl (by rw [hb.ru, List.length_map] at h20; rw [hb.cr, h20]; decide))]
  have hr20 : l.rules.length + 1 ≤ 20 := by
    have h := hb.r20
    have : ¬ l.rules.length = 20 := fun h => h20 (by rw [hb.ru, List.length_map]; exact h)
    omega
  have hroom : decide (l.rule + 1 ≤ 20) = true := by rw [hb.cr]; simp; omega
  obtain ⟨qb, hqb⟩ : ∃ qb, Dsr.ruBodyL (Dsr.endT n) q = qb := ⟨_, rfl⟩
  have eR : Dsr.ruleL (Dsr.endT n) q = ({ qb.1 with rules := qb.1.rules ++ [Dsr.ruOfL (Dsr.endT n) q] }, qb.2) := by unfold Dsr.ruleL; rw [if_neg h20, hqb]
  have badR : ∀ {c a : Nat}, Bad (Dsr.endT n) c a (Dsr.ruBodyL (Dsr.endT n) q) → Bad (Dsr.endT n) c a (Dsr.ruleL (Dsr.endT n) q) := by intro c a h; rw [hqb] at h; rw [eR]; exact h
  by_cases h8 : 8 < q.1.now.text.length
  · left
    refine err_of (c := 3) (by decide) hne0 ?_ (badR ?_)
    · rw [nx0, named_big hT.1 h1 (.inr h8)]
    · unfold Dsr.ruBodyL Dsr.ruHeadL
      exact (((nameL_big hE h1 h8 hb.rf).take hE (by decide) (by decide)).name hE (by decide) 2).take hE (by decide) (by decide)
  rw [named_ok hT.1 h1 hroom h8] at nx0
  obtain ⟨l1, hl1⟩ : ∃ l1, nextP l q.1.now = l1 := ⟨_, rfl⟩
  have eN : Dsr.nameL (Dsr.endT n) q 2 = Dsr.stepL (Dsr.endT n) (Dsr.useL q (q.1.uses ++ [useOf q 2])) := nameL_ok h1 h8
  obtain ⟨q1, hq1⟩ : ∃ q1, Dsr.stepL (Dsr.endT n) (Dsr.useL q (q.1.uses ++ [useOf q 2])) = q1 := ⟨_, rfl⟩
  rw [hq1] at eN
  have hT1 : TGs q1 := by rw [← hq1]; exact (hT.use _).step n
  have r1 : runP l (stream (Dsr.endT n) q) = runP l1 (stream (Dsr.endT n) q1) := by
    rw [← hl1]
    exact run_step hne0 (by rw [nx0]; show l.e = 0; exact hb.le) (by rw [nx0]; exact (by decide : (8 : Nat) ≤ 9)) (by rw [← hq1]; rfl)
  rw [hl1] at nx0
  have w1 : l1.want = 8 := by rw [nx0]
  have f1 : q1.1.fErr = 0 := by rw [← hq1]; exact hb.rf
  have hne1 : ¬ (q1.1.now.text = [] ∧ l1.want = 0) := fun h => by omega
  have nx1 : nextP l1 q1.1.now = { l1 with want := 9, rules := modLast (fun x => { x with sign := sgn q1.1.now }) l1.rules, e := if sgn q1.1.now = 0 then 2 else l1.e } := by unfold nextP; simp [w1]
  have eH : Dsr.ruHeadL (Dsr.endT n) q = Dsr.takeL (Dsr.endT n) q1 9 := by unfold Dsr.ruHeadL; rw [eN]
  by_cases h9 : q1.1.now.kind = 9
  case neg =>
    left
    rw [r1]
    refine err_of (c := 2) (by decide) hne1 ?_ (badR ?_)
    · rw [nx1]; show (if sgn q1.1.now = 0 then 2 else l1.e) = 2; rw [if_pos (by unfold sgn; rw [if_neg h9])]
    · unfold Dsr.ruBodyL
      rw [eH]
      exact ((takeL_bad h9 f1).name hE (by decide) 2).take hE (by decide) (by decide)
  have hsg : sgn q1.1.now = q1.1.now.rule + 1 := by unfold sgn; rw [if_pos h9]
  have hru5 := hT1.1.ru h9
  rw [takeL_ok h9] at eH
  obtain ⟨q2, hq2⟩ : ∃ q2, Dsr.stepL (Dsr.endT n) q1 = q2 := ⟨_, rfl⟩
  obtain ⟨l2, hl2⟩ : ∃ l2, nextP l1 q1.1.now = l2 := ⟨_, rfl⟩
  rw [hq2] at eH
  have hT2 : TGs q2 := by rw [← hq2]; exact hT1.step n
  have r2 : runP l1 (stream (Dsr.endT n) q1) = runP l2 (stream (Dsr.endT n) q2) := by
    rw [← hl2]
    exact run_step hne1 (by rw [nx1]; show (if sgn q1.1.now = 0 then 2 else l1.e) = 0; rw [if_neg (by omega), nx0]; show l.e = 0; exact hb.le) (by rw [nx1]; exact (by decide : (9 : Nat) ≤ 9)) (by rw [hq2])
  rw [hl2, hsg, if_neg (by omega), nx0] at nx1
  simp only [modLast_snoc] at nx1
  have w2 : l2.want = 9 := by rw [nx1]
  have f2 : q2.1.fErr = 0 := by rw [← hq2]; exact f1
  have hne2 : ¬ (q2.1.now.text = [] ∧ l2.want = 0) := fun h => by omega
  have nx2 : nextP l2 q2.1.now = { namedP l2 q2.1.now true 3 7 with rules := modLast (fun x => { x with right := q2.1.now.text }) l2.rules } := by unfold nextP; simp [w2]
  have eB : Dsr.ruBodyL (Dsr.endT n) q = Dsr.takeL (Dsr.endT n) (Dsr.nameL (Dsr.endT n) q2 2) 8 := by unfold Dsr.ruBodyL; rw [eH]
  by_cases h21 : q2.1.now.kind = 1
  case neg =>
    left
    rw [r1, r2]
    refine err_of (c := 2) (by decide) hne2 ?_ (badR ?_)
    · rw [nx2, named_not hT2.1 h21]
    · rw [eB]; exact (nameL_not h21 f2).take hE (by decide) (by decide)
  by_cases h28 : 8 < q2.1.now.text.length
  · left
    rw [r1, r2]
    refine err_of (c := 3) (by decide) hne2 ?_ (badR ?_)
    · rw [nx2, named_big hT2.1 h21 (.inr h28)]
    · rw [eB]; exact (nameL_big hE h21 h28 f2).take hE (by decide) (by decide)
  rw [named_ok hT2.1 h21 rfl h28] at nx2
  have eN2 : Dsr.nameL (Dsr.endT n) q2 2 = Dsr.stepL (Dsr.endT n) (Dsr.useL q2 (q2.1.uses ++ [useOf q2 2])) := nameL_ok h21 h28
  obtain ⟨q3, hq3⟩ : ∃ q3, Dsr.stepL (Dsr.endT n) (Dsr.useL q2 (q2.1.uses ++ [useOf q2 2])) = q3 := ⟨_, rfl⟩
  obtain ⟨l3, hl3⟩ : ∃ l3, nextP l2 q2.1.now = l3 := ⟨_, rfl⟩
  rw [hq3] at eN2
  rw [eN2] at eB
  have hT3 : TGs q3 := by rw [← hq3]; exact (hT2.use _).step n
  have r3 : runP l2 (stream (Dsr.endT n) q2) = runP l3 (stream (Dsr.endT n) q3) := by
    rw [← hl3]
    exact run_step hne2 (by rw [nx2, nx1]; show l.e = 0; exact hb.le) (by rw [nx2]; exact (by decide : (7 : Nat) ≤ 9)) (by rw [← hq3]; rfl)
  rw [hl3, nx1] at nx2
  simp only [modLast_snoc] at nx2
  have w3 : l3.want = 7 := by rw [nx2]
  have f3 : q3.1.fErr = 0 := by rw [← hq3]; exact f2
  have hne3 : ¬ (q3.1.now.text = [] ∧ l3.want = 0) := fun h => by omega
  have nx3 : nextP l3 q3.1.now = { l3 with want := 0, e := if q3.1.now.text = [59] then l3.e else 2 } := by unfold nextP; simp [w3]
  by_cases h38 : q3.1.now.kind = 8
  case neg =>
    left
    rw [r1, r2, r3]
    refine err_of (c := 2) (by decide) hne3 ?_ (badR ?_)
    · rw [nx3]; show (if q3.1.now.text = [59] then l3.e else 2) = 2; rw [if_neg (fun h => h38 (hT3.1.sem.1 h))]
    · rw [eB]; exact takeL_bad h38 f3
  right
  rw [takeL_ok h38] at eB
  obtain ⟨q4, hq4⟩ : ∃ q4, Dsr.stepL (Dsr.endT n) q3 = q4 := ⟨_, rfl⟩
  rw [hq4] at eB
  have he3 : l3.e = 0 := by rw [nx2]; show l.e = 0; exact hb.le
  rw [if_pos (hT3.1.sem.2 h38), he3] at nx3
  have r4 : runP l3 (stream (Dsr.endT n) q3) = runP (nextP l3 q3.1.now) (stream (Dsr.endT n) q4) := run_step hne3 (by rw [nx3]) (by rw [nx3]; exact (by decide : (0 : Nat) ≤ 9)) (by rw [hq4])
  have eO : Dsr.ruOfL (Dsr.endT n) q = ⟨q.1.now.text, q2.1.now.text, q1.1.now.rule⟩ := by unfold Dsr.ruOfL; rw [eH, eN]
  have hT4 : TGs q4 := by rw [← hq4]; exact hT3.step n
  have q4e : q4.1.events = q.1.events := by rw [← hq4, ← hq3, ← hq2, ← hq1]; rfl
  have q4r : q4.1.rules = q.1.rules := by rw [← hq4, ← hq3, ← hq2, ← hq1]; rfl
  have q4u : q4.1.uses = q.1.uses ++ [useOf q 2] ++ [useOf q2 2] := by rw [← hq4, ← hq3]; show q2.1.uses ++ _ = _; rw [← hq2]; show q1.1.uses ++ _ = _; rw [← hq1]; rfl
  have q4f : q4.1.fErr = 0 := by rw [← hq4]; exact f3
  have hxt : q.1.now.text ≠ [] := fun h => by have := hT.1.nil.1 h; omega
  refine ⟨nextP l3 q3.1.now, ps ++ [(⟨q.1.now, 3, l.lines + 1⟩, useOf q 2)] ++ [(⟨q2.1.now, 3, l.lines + 1⟩, useOf q2 2)], ?_, ?_, ?_, ?_⟩
  rotate_left 3
  · rw [nx3, nx2]; show l.events.length + (l.rules ++ [_]).length = _; simp; omega
  · rw [nx3, nx2]
    rw [eR, ← hqb, eB, eO]
    refine ⟨?_, ?_, ?_, ?_, ?_, ?_, ?_, ?_, ?_, ?_, ?_, ?_, ?_, ?_, ?_, ?_⟩
    · show l.events = q4.1.events; rw [q4e]; exact hb.ev
    · show q4.1.rules ++ _ = List.map toRl (l.rules ++ [_]); rw [q4r, hb.ru, List.map_append]; rfl
    · intro r hr
      rcases List.mem_append.1 hr with hr | hr
      · exact hb.sg r hr
      · simp at hr; subst hr; exact ⟨by simp, by simp; omega⟩
    · show l.uses ++ _ ++ _ = _; rw [hb.lu]; simp
    · show q4.1.uses = _; rw [q4u, hb.us]; simp
    · exact (hb.pok.snoc0 ⟨rfl, rfl, rfl, (by decide : (2 : Nat) ≤ 2)⟩ (by decide : (2 : Nat) ≠ 1)).snoc0 ⟨rfl, rfl, rfl, (by decide : (2 : Nat) ≤ 2)⟩ (by decide : (2 : Nat) ≠ 1)
    · show BO _ (l.lines + 1) l.events.length; exact ((hb.bo.mono (Nat.le_succ _) (Nat.le_refl _)).snoc0 (by decide : (2 : Nat) ≠ 1)).snoc0 (by decide : (2 : Nat) ≠ 1)
    · show EvL l.events _; exact (hb.el.snoc2 rfl).snoc2 rfl
    · intro r hr
      rcases List.mem_append.1 hr with hr | hr
      · obtain ⟨⟨p, hp, h1⟩, ⟨p', hp', h2⟩⟩ := hb.rp r hr
        exact ⟨⟨p, by simp [hp], h1⟩, ⟨p', by simp [hp'], h2⟩⟩
      · simp at hr; subst hr
        exact ⟨⟨(⟨q.1.now, 3, l.lines + 1⟩, useOf q 2), by simp, rfl, rfl⟩, ⟨(⟨q2.1.now, 3, l.lines + 1⟩, useOf q2 2), by simp, rfl, rfl⟩⟩
    · show l.event = l.events.length; exact hb.ce
    · show l.rule + 1 = _; rw [hb.cr]; simp
    · show (0 : Nat) = 0; rfl
    · show q4.1.fErr = 0; exact q4f
    · show (0 : Nat) = 0; rfl
    · show l.events.length ≤ 10; exact hb.e10
    · show (l.rules ++ [_]).length ≤ 20; simp; omega
  · rw [eR, ← hqb, eB]; exact hT4
  · rw [r1, r2, r3, r4, eR, ← hqb, eB]; rfl
end Go.Proofs.YtjmcokcdaddpcaaGreatDoor
set_option linter.unusedVariables false
set_option linter.unusedSimpArgs false
namespace Go.Proofs.YtjmcokcdaddpcaaGreatDoor
open Go.RowKit
abbrev mk (w L r : Nat) (es : List Dsr.Ev) (x : Dsr.Ev) (rs : List RR) (us : List RU) (ev ru : Nat) : LK := ⟨w, L, r, 0, es ++ [x], rs, us, ev, ru⟩
section
variable {n w L r : Nat} {es : List Dsr.Ev} {x : Dsr.Ev} {rs : List RR} {us : List RU} {ev ru : Nat} {k : Dsr.Tok} {q : Dsr.QR}
theorem nx_mark (hT : TG k) (hw : w = 4 ∨ w = 5 ∨ w = 6) : nextP (mk w L r es x rs us ev ru) k =
    if k.kind = 7 ∧ w = 4 then mk 3 L r es x rs us ev ru else if k.kind = 4 ∧ w = 4 then mk 5 L r es { x with inn := false } rs us ev ru else if k.kind = 5 ∧ w ≤ 5 then mk 6 L r es { x with due := true } rs us ev ru
    else if k.kind = 6 ∧ w ≤ 6 then mk 7 L r es { x with done := true } rs us ev ru else if k.kind = 8 then mk 0 L r es x rs us ev ru else ⟨w, L, r, 2, es ++ [x], rs, us, ev, ru⟩ := by
  have e : nextP (mk w L r es x rs us ev ru) k = markP (mk w L r es x rs us ev ru) k := by
    unfold nextP
    rw [if_neg (by show ¬ w = 0; omega), if_neg (by show ¬ w = 1; omega), if_neg (by show ¬ w = 2; omega), if_neg (by show ¬ w = 3; omega), if_neg (by show ¬ w = 8; omega), if_neg (by show ¬ w = 9; omega), if_neg (by show ¬ w = 7; omega)]
  rw [e]
  unfold markP
  simp only [hT.com, hT.out, hT.due, hT.done, hT.sem, modLast_snoc]
theorem nx_end (hT : TG k) : nextP (mk 7 L r es x rs us ev ru) k = if k.kind = 8 then mk 0 L r es x rs us ev ru else ⟨0, L, r, 2, es ++ [x], rs, us, ev, ru⟩ := by
  unfold nextP
  simp only [hT.sem]
  by_cases h : k.kind = 8 <;> simp [h]
/-- From a state within a line to the next one. -/
def MG (n : Nat) (q res : Dsr.QR) (R : LK × Option Nat) (fin : LK) : Prop :=
  Err (Dsr.endT n) res R ∨ (TGs res ∧ res.1.fErr = 0 ∧ res.1.events = q.1.events ∧ res.1.rules = q.1.rules ∧ res.1.uses = q.1.uses ∧ R = runP fin (stream (Dsr.endT n) res))
theorem m7 (hT : TGs q) (hf : q.1.fErr = 0) : MG n q (Dsr.takeL (Dsr.endT n) q 8) (runP (mk 7 L r es x rs us ev ru) (stream (Dsr.endT n) q)) (mk 0 L r es x rs us ev ru) := by
  have nx := nx_end (L := L) (r := r) (es := es) (x := x) (rs := rs) (us := us) (ev := ev) (ru := ru) hT.1
  have hne : ¬ (q.1.now.text = [] ∧ (mk 7 L r es x rs us ev ru).want = 0) := fun h => by have : (7 : Nat) = 0 := h.2; omega
  by_cases h8 : q.1.now.kind = 8
  · right
    rw [if_pos h8] at nx
    rw [takeL_ok h8]
    refine ⟨hT.step n, hf, rfl, rfl, rfl, ?_⟩
    rw [run_step (q' := Dsr.stepL (Dsr.endT n) q) hne (by rw [nx]) (by rw [nx]; exact Nat.zero_le _) rfl, nx]
  · left
    rw [if_neg h8] at nx
    exact err_of (c := 2) (by decide) hne (by rw [nx]) (takeL_bad h8 hf)
theorem MG.after {q q1 res : Dsr.QR} {R R1 : LK × Option Nat} {fin : LK} (h : MG n q1 res R1 fin) (hR : R = R1) (h1 : q1.1.events = q.1.events) (h2 : q1.1.rules = q.1.rules) (h3 : q1.1.uses = q.1.uses) : MG n q res R fin := by
  subst hR
  rcases h with h | ⟨a, b, c, d, e, f⟩
  · exact .inl h
  · exact .inr ⟨a, b, c.trans h1, d.trans h2, e.trans h3, f⟩
theorem m6 (hw : w = 4 ∨ w = 5 ∨ w = 6) (hT : TGs q) (hf : q.1.fErr = 0) (h4 : w = 4 → q.1.now.kind ≠ 7 ∧ q.1.now.kind ≠ 4) (h5 : w ≤ 5 → q.1.now.kind ≠ 5) :
    MG n q (Dsr.takeL (Dsr.endT n) (Dsr.takeIfL (Dsr.endT n) q 6) 8) (runP (mk w L r es x rs us ev ru) (stream (Dsr.endT n) q)) (mk 0 L r es { x with done := x.done || decide (q.1.now.kind = 6) } rs us ev ru) := by
  have nx := nx_mark (L := L) (r := r) (es := es) (x := x) (rs := rs) (us := us) (ev := ev) (ru := ru) hT.1 hw
  rw [if_neg (fun h => (h4 h.2).1 h.1), if_neg (fun h => (h4 h.2).2 h.1), if_neg (fun h => h5 h.2 h.1)] at nx
  have hne : ¬ (q.1.now.text = [] ∧ (mk w L r es x rs us ev ru).want = 0) := fun h => by have : w = 0 := h.2; omega
  by_cases h6 : q.1.now.kind = 6
  · rw [if_pos ⟨h6, by omega⟩] at nx
    have e : Dsr.takeIfL (Dsr.endT n) q 6 = Dsr.stepL (Dsr.endT n) q := by unfold Dsr.takeIfL; rw [if_pos h6]
    rw [e]
    have hx : ({ x with done := x.done || decide (q.1.now.kind = 6) } : Dsr.Ev) = { x with done := true } := by simp [h6]
    rw [hx]
    refine MG.after (m7 (hT.step n) hf) ?_ rfl rfl rfl
    rw [run_step (q' := Dsr.stepL (Dsr.endT n) q) hne (by rw [nx]) (by rw [nx]; exact (by decide : (7 : Nat) ≤ 9)) rfl, nx]
  · rw [if_neg (fun h => h6 h.1)] at nx
    have e : Dsr.takeIfL (Dsr.endT n) q 6 = q := by unfold Dsr.takeIfL; rw [if_neg h6]
    rw [e]
    have hx : ({ x with done := x.done || decide (q.1.now.kind = 6) } : Dsr.Ev) = x := by simp [h6]
    rw [hx]
    by_cases h8 : q.1.now.kind = 8
    · right
      rw [if_pos h8] at nx
      rw [takeL_ok h8]
      refine ⟨hT.step n, hf, rfl, rfl, rfl, ?_⟩
      rw [run_step (q' := Dsr.stepL (Dsr.endT n) q) hne (by rw [nx]) (by rw [nx]; exact Nat.zero_le _) rfl, nx]
    · left
      rw [if_neg h8] at nx
      exact err_of (c := 2) (by decide) hne (by rw [nx]) (takeL_bad h8 hf)
theorem m5 (hw : w = 4 ∨ w = 5) (hT : TGs q) (hf : q.1.fErr = 0) (h4 : w = 4 → q.1.now.kind ≠ 7 ∧ q.1.now.kind ≠ 4) :
    MG n q (Dsr.takeL (Dsr.endT n) (Dsr.takeIfL (Dsr.endT n) (Dsr.takeIfL (Dsr.endT n) q 5) 6) 8) (runP (mk w L r es x rs us ev ru) (stream (Dsr.endT n) q)) (mk 0 L r es { x with due := x.due || decide (q.1.now.kind = 5), done := x.done || decide ((Dsr.takeIfL (Dsr.endT n) q 5).1.now.kind = 6) } rs us ev ru) := by
  by_cases h5 : q.1.now.kind = 5
  · have nx := nx_mark (L := L) (r := r) (es := es) (x := x) (rs := rs) (us := us) (ev := ev) (ru := ru) hT.1 (w := w) (by omega)
    rw [if_neg (fun h => (h4 h.2).1 h.1), if_neg (fun h => (h4 h.2).2 h.1), if_pos ⟨h5, by omega⟩] at nx
    have hne : ¬ (q.1.now.text = [] ∧ (mk w L r es x rs us ev ru).want = 0) := fun h => by have : w = 0 := h.2; omega
    have e : Dsr.takeIfL (Dsr.endT n) q 5 = Dsr.stepL (Dsr.endT n) q := by unfold Dsr.takeIfL; rw [if_pos h5]
    rw [e]
    have hx : ({ x with due := x.due || decide (q.1.now.kind = 5), done := x.done || decide ((Dsr.stepL (Dsr.endT n) q).1.now.kind = 6) } : Dsr.Ev) = { ({ x with due := true } : Dsr.Ev) with done := ({ x with due := true } : Dsr.Ev).done || decide ((Dsr.stepL (Dsr.endT n) q).1.now.kind = 6) } := by simp [h5]
    rw [hx]
    refine MG.after (m6 (w := 6) (by omega) (hT.step n) hf (fun h => by omega) (fun h => by omega)) ?_ rfl rfl rfl
    rw [run_step (q' := Dsr.stepL (Dsr.endT n) q) hne (by rw [nx]) (by rw [nx]; exact (by decide : (6 : Nat) ≤ 9)) rfl, nx]
  · have e : Dsr.takeIfL (Dsr.endT n) q 5 = q := by unfold Dsr.takeIfL; rw [if_neg h5]
    rw [e]
    have hx : ({ x with due := x.due || decide (q.1.now.kind = 5), done := x.done || decide (q.1.now.kind = 6) } : Dsr.Ev) = { x with done := x.done || decide (q.1.now.kind = 6) } := by simp [h5]
    rw [hx]
    exact m6 (by omega) hT hf h4 (fun _ => h5)
theorem m4 (hT : TGs q) (hf : q.1.fErr = 0) (h7 : q.1.now.kind ≠ 7) :
    MG n q (Dsr.takeL (Dsr.endT n) (Dsr.markL (Dsr.endT n) q) 8) (runP (mk 4 L r es x rs us ev ru) (stream (Dsr.endT n) q)) (mk 0 L r es { x with inn := x.inn && !decide (q.1.now.kind = 4), due := x.due || decide ((Dsr.takeIfL (Dsr.endT n) q 4).1.now.kind = 5), done := x.done || decide ((Dsr.takeIfL (Dsr.endT n) (Dsr.takeIfL (Dsr.endT n) q 4) 5).1.now.kind = 6) } rs us ev ru) := by
  unfold Dsr.markL
  by_cases h4 : q.1.now.kind = 4
  · have nx := nx_mark (L := L) (r := r) (es := es) (x := x) (rs := rs) (us := us) (ev := ev) (ru := ru) hT.1 (w := 4) (by omega)
    rw [if_neg (fun h => h7 h.1), if_pos ⟨h4, rfl⟩] at nx
    have hne : ¬ (q.1.now.text = [] ∧ (mk 4 L r es x rs us ev ru).want = 0) := fun h => by have : (4 : Nat) = 0 := h.2; omega
    have e : Dsr.takeIfL (Dsr.endT n) q 4 = Dsr.stepL (Dsr.endT n) q := by unfold Dsr.takeIfL; rw [if_pos h4]
    rw [e]
    obtain ⟨q1, hq1⟩ : ∃ q1, Dsr.stepL (Dsr.endT n) q = q1 := ⟨_, rfl⟩
    rw [hq1]
    have hx : ({ x with inn := x.inn && !decide (q.1.now.kind = 4), due := x.due || decide (q1.1.now.kind = 5), done := x.done || decide ((Dsr.takeIfL (Dsr.endT n) q1 5).1.now.kind = 6) } : Dsr.Ev) = { ({ x with inn := false } : Dsr.Ev) with due := ({ x with inn := false } : Dsr.Ev).due || decide (q1.1.now.kind = 5), done := ({ x with inn := false } : Dsr.Ev).done || decide ((Dsr.takeIfL (Dsr.endT n) q1 5).1.now.kind = 6) } := by simp [h4]
    rw [hx]
    refine MG.after (m5 (w := 5) (by omega) (by rw [← hq1]; exact hT.step n) (by rw [← hq1]; exact hf) (fun h => by omega)) ?_ (by rw [← hq1]; rfl) (by rw [← hq1]; rfl) (by rw [← hq1]; rfl)
    rw [run_step (q' := q1) hne (by rw [nx]) (by rw [nx]; exact (by decide : (5 : Nat) ≤ 9)) (by rw [hq1]), nx]
  · have e : Dsr.takeIfL (Dsr.endT n) q 4 = q := by unfold Dsr.takeIfL; rw [if_neg h4]
    rw [e]
    have hx : ({ x with inn := x.inn && !decide (q.1.now.kind = 4), due := x.due || decide (q.1.now.kind = 5), done := x.done || decide ((Dsr.takeIfL (Dsr.endT n) q 5).1.now.kind = 6) } : Dsr.Ev) = { x with due := x.due || decide (q.1.now.kind = 5), done := x.done || decide ((Dsr.takeIfL (Dsr.endT n) q 5).1.now.kind = 6) } := by simp [h4]
    rw [hx]
    exact m5 (by omega) hT hf (fun _ => ⟨h7, h4⟩)
end
end Go.Proofs.YtjmcokcdaddpcaaGreatDoor
set_option linter.unusedVariables false
set_option linter.unusedSimpArgs false
namespace Go.Proofs.YtjmcokcdaddpcaaGreatDoor
open Go.RowKit
structure RoleP (L J : Nat) (p : Pr) : Prop where
  wh : p.1.what = p.2.as_ + 1
  as_ : p.2.as_ = 1
  nm : p.2.name = p.1.tk.text
  at_ : p.2.at_ = p.1.tk.at_
  ln : p.1.line = L
  ev : p.2.event = J
  ne : p.2.name ≠ []
theorem Err.map {E : Dsr.Tok} {q q' : Dsr.QR} {R : LK × Option Nat} (h : Err E q R) (hm : ∀ c a, c ≠ 0 → Bad E c a q → Bad E c a q') : Err E q' R := by
  obtain ⟨c, a, hc, hb, h⟩ := h
  exact ⟨c, a, hc, hm c a hc hb, h⟩
section
variable {n L : Nat} {es : List Dsr.Ev} {rs : List RR} {ev ru : Nat}
theorem nx_role (r : Nat) (x : Dsr.Ev) (us : List RU) (k : Dsr.Tok) : nextP (mk 3 L r es x rs us ev ru) k = { namedP (mk 3 L (r + 1) es x rs us ev ru) k (decide (r + 1 ≤ 4)) 2 4 with events := es ++ [{ x with roles := x.roles ++ [k.text] }] } := by
  unfold nextP
  simp [modLast_snoc]
/-- A role: what comes of its token. -/
theorem role_one {r : Nat} {x : Dsr.Ev} {us : List RU} {q : Dsr.QR} (hT : TGs q) (hf : q.1.fErr = 0) (hr : r = x.roles.length) (he : q.1.events = es) :
    Err (Dsr.endT n) (Dsr.nameL (Dsr.endT n) (Dsr.rolesSizeL (Dsr.endT n) q r) 1) (runP (mk 3 L r es x rs us ev ru) (stream (Dsr.endT n) q)) ∨
    (∃ p : Pr, RoleP L es.length p ∧ p.2.name = q.1.now.text ∧ r + 1 ≤ 4 ∧ Dsr.rolesSizeL (Dsr.endT n) q r = q ∧ TGs (Dsr.nameL (Dsr.endT n) q 1) ∧ (Dsr.nameL (Dsr.endT n) q 1).1.fErr = 0 ∧ (Dsr.nameL (Dsr.endT n) q 1).1.events = q.1.events ∧ (Dsr.nameL (Dsr.endT n) q 1).1.rules = q.1.rules ∧ (Dsr.nameL (Dsr.endT n) q 1).1.uses = q.1.uses ++ [p.2] ∧
      runP (mk 3 L r es x rs us ev ru) (stream (Dsr.endT n) q) = runP (mk 4 L (r + 1) es { x with roles := x.roles ++ [q.1.now.text] } rs (us ++ [p.1]) ev ru) (stream (Dsr.endT n) (Dsr.nameL (Dsr.endT n) q 1))) ∨ 4 < r := by
  have hE : (Dsr.endT n).kind = 10 := rfl
  have nx := nx_role (L := L) (es := es) (rs := rs) (ev := ev) (ru := ru) r x us q.1.now
  have hne : ¬ (q.1.now.text = [] ∧ (mk 3 L r es x rs us ev ru).want = 0) := fun h => by have : (3 : Nat) = 0 := h.2; omega
  by_cases h1 : q.1.now.kind = 1
  case neg =>
    left
    rw [named_not hT.1 h1] at nx
    have e : Dsr.rolesSizeL (Dsr.endT n) q r = q := by unfold Dsr.rolesSizeL; rw [if_neg (by unfold Dsr.bigRoles; simp [h1])]
    rw [e]
    exact err_of (c := 2) (by decide) hne (by rw [nx]) (nameL_not h1 hf)
  by_cases h4 : 4 < r
  · exact .inr (.inr h4)
  by_cases hr4 : r = 4
  · left
    rw [named_big hT.1 h1 (.inl (by rw [hr4]; decide))] at nx
    have e : Dsr.rolesSizeL (Dsr.endT n) q r = Dsr.refuseL (Dsr.endT n) q 3 := by unfold Dsr.rolesSizeL; rw [if_pos (by unfold Dsr.bigRoles; simp [h1, hr4])]
    rw [e]
    exact err_of (c := 3) (by decide) hne (by rw [nx]) ((refuse_bad hf 3).name hE (by decide) 1)
  have e : Dsr.rolesSizeL (Dsr.endT n) q r = q := by unfold Dsr.rolesSizeL; rw [if_neg (by unfold Dsr.bigRoles; simp [hr4])]
  rw [e]
  by_cases h8 : 8 < q.1.now.text.length
  · left
    rw [named_big hT.1 h1 (.inr h8)] at nx
    exact err_of (c := 3) (by decide) hne (by rw [nx]) (nameL_big hE h1 h8 hf)
  right; left
  rw [named_ok hT.1 h1 (by simp; omega) h8] at nx
  rw [nameL_ok h1 h8]
  refine ⟨(⟨q.1.now, 2, L⟩, useOf q 1), ⟨rfl, rfl, rfl, rfl, rfl, by show q.1.events.length = _; rw [he], fun h => by have := hT.1.nil.1 h; omega⟩, rfl, by omega, rfl, (hT.use _).step n, hf, rfl, rfl, rfl, ?_⟩
  rw [run_step (q' := Dsr.stepL (Dsr.endT n) (Dsr.useL q (q.1.uses ++ [useOf q 1]))) hne (by rw [nx]) (by rw [nx]; exact (by decide : (4 : Nat) ≤ 9)) rfl, nx]
theorem roles_loop : ∀ (f r : Nat) (x : Dsr.Ev) (us : List RU) (q : Dsr.QR), TGs q → q.1.fErr = 0 → r = x.roles.length → r ≤ 4 → 5 ≤ f + r → q.1.events = es →
    Err (Dsr.endT n) (Dsr.rolesLoopL (Dsr.endT n) f q x.roles).1 (runP (mk 4 L r es x rs us ev ru) (stream (Dsr.endT n) q)) ∨
    ∃ (r' : Nat) (ps2 : List Pr), (∀ p ∈ ps2, RoleP L es.length p) ∧ TGs (Dsr.rolesLoopL (Dsr.endT n) f q x.roles).1 ∧ (Dsr.rolesLoopL (Dsr.endT n) f q x.roles).1.1.fErr = 0 ∧ (Dsr.rolesLoopL (Dsr.endT n) f q x.roles).1.1.now.kind ≠ 7 ∧ (Dsr.rolesLoopL (Dsr.endT n) f q x.roles).1.1.events = q.1.events ∧ (Dsr.rolesLoopL (Dsr.endT n) f q x.roles).1.1.rules = q.1.rules ∧
      (Dsr.rolesLoopL (Dsr.endT n) f q x.roles).1.1.uses = q.1.uses ++ ps2.map (·.2) ∧ (Dsr.rolesLoopL (Dsr.endT n) f q x.roles).2 = x.roles ++ ps2.map (·.2.name) ∧
      runP (mk 4 L r es x rs us ev ru) (stream (Dsr.endT n) q) = runP (mk 4 L r' es { x with roles := (Dsr.rolesLoopL (Dsr.endT n) f q x.roles).2 } rs (us ++ ps2.map (·.1)) ev ru) (stream (Dsr.endT n) (Dsr.rolesLoopL (Dsr.endT n) f q x.roles).1)
  | 0, r, x, us, q, hT, hf, hr, h4, h5, he => by omega
  | f + 1, r, x, us, q, hT, hf, hr, h4, h5, he => by
    have hE : (Dsr.endT n).kind = 10 := rfl
    by_cases h7 : q.1.now.kind = 7
    · have nx := nx_mark (L := L) (r := r) (es := es) (x := x) (rs := rs) (us := us) (ev := ev) (ru := ru) hT.1 (w := 4) (by omega)
      rw [if_pos ⟨h7, rfl⟩] at nx
      have hne : ¬ (q.1.now.text = [] ∧ (mk 4 L r es x rs us ev ru).want = 0) := fun h => by have : (4 : Nat) = 0 := h.2; omega
      obtain ⟨q1, hq1⟩ : ∃ q1, Dsr.stepL (Dsr.endT n) q = q1 := ⟨_, rfl⟩
      have hT1 : TGs q1 := by rw [← hq1]; exact hT.step n
      have hf1 : q1.1.fErr = 0 := by rw [← hq1]; exact hf
      have he1 : q1.1.events = es := by rw [← hq1]; exact he
      have r1 : runP (mk 4 L r es x rs us ev ru) (stream (Dsr.endT n) q) = runP (mk 3 L r es x rs us ev ru) (stream (Dsr.endT n) q1) := by
        rw [run_step (q' := q1) hne (by rw [nx]) (by rw [nx]; exact (by decide : (3 : Nat) ≤ 9)) (by rw [hq1]), nx]
      have eL : Dsr.rolesLoopL (Dsr.endT n) (f + 1) q x.roles = Dsr.rolesLoopL (Dsr.endT n) f (Dsr.nameL (Dsr.endT n) (Dsr.rolesSizeL (Dsr.endT n) q1 r) 1) (x.roles ++ [(Dsr.rolesSizeL (Dsr.endT n) q1 r).1.now.text]) := by
        rw [Dsr.rolesLoopL, if_pos h7, hq1, ← hr]
      rw [eL, r1]
      rcases role_one (n := n) (L := L) (rs := rs) (ev := ev) (ru := ru) (us := us) (x := x) (r := r) (es := es) hT1 hf1 hr he1 with h | ⟨p, hp, hpn, hr4, hz, hT2, hf2, he2, hr2, hu2, h⟩ | h
      · left
        exact h.map (fun c a hc hb => hb.rolesLoop hE f _)
      · rw [hz]
        obtain ⟨q2, hq2⟩ : ∃ q2, Dsr.nameL (Dsr.endT n) q1 1 = q2 := ⟨_, rfl⟩
        rw [hq2] at hT2 hf2 he2 hr2 hu2 h ⊢
        rw [h]
        rcases roles_loop f (r + 1) { x with roles := x.roles ++ [q1.1.now.text] } (us ++ [p.1]) q2 hT2 hf2 (by simp; omega) hr4 (by omega) (by rw [he2]; exact he1) with h' | ⟨r', ps2, k1, k2, k3, k4, k5, k6, k7, k8, k9⟩
        · exact .inl h'
        · right
          refine ⟨r', p :: ps2, ?_, k2, k3, k4, ?_, ?_, ?_, ?_, ?_⟩
          · intro p' hp'
            rcases List.mem_cons.1 hp' with rfl | hp'
            · exact hp
            · exact k1 p' hp'
          · rw [k5, he2, ← hq1]; rfl
          · rw [k6, hr2, ← hq1]; rfl
          · rw [k7, hu2, ← hq1]; simp; rfl
          · rw [k8]; simp [hpn]
          · rw [k9]; simp
      · omega
    · right
      have eL : Dsr.rolesLoopL (Dsr.endT n) (f + 1) q x.roles = (q, x.roles) := by rw [Dsr.rolesLoopL, if_neg h7]
      rw [eL]
      exact ⟨r, [], by simp, hT, hf, h7, rfl, rfl, by simp, by simp, by simp⟩
end
end Go.Proofs.YtjmcokcdaddpcaaGreatDoor
set_option linter.unusedVariables false
set_option linter.unusedSimpArgs false
namespace Go.Proofs.YtjmcokcdaddpcaaGreatDoor
open Go.RowKit
theorem PS.snocs {L J : Nat} : ∀ {rp ps : List Pr}, PS ps → BI ps L J → (∀ p ∈ rp, RoleP L J p) → PS (ps ++ rp) ∧ BI (ps ++ rp) L J
  | [], ps, h, hb, _ => by simpa using ⟨h, hb⟩
  | p :: rp, ps, h, hb, hr => by
    have hp := hr p (by simp)
    obtain ⟨h1, h2⟩ := h.snoc1 hb (p := p) ⟨hp.wh, hp.nm, hp.at_, by rw [hp.as_]; decide⟩ hp.ln hp.ev
    have := PS.snocs h1 h2 (fun x hx => hr x (List.mem_cons_of_mem _ hx))
    rw [List.append_assoc] at this
    exact this
theorem EvL.event {es : List Dsr.Ev} {ps rp : List Pr} {d : Pr} {x : Dsr.Ev} {L M : Nat} (h : EvL es ps) (hbo : BO ps M es.length) (hd : d.2.as_ = 0) (hx : x.name = d.2.name) (hne : d.2.name ≠ []) (hr : ∀ p ∈ rp, RoleP L es.length p) (hxr : x.roles = rp.map (·.2.name)) :
    EvL (es ++ [x]) (ps ++ [d] ++ rp) := by
  have f0 : rp.filter (fun p => p.2.as_ == 0) = [] := List.filter_eq_nil_iff.2 (fun p hp => by rw [(hr p hp).as_]; decide)
  refine ⟨?_, ?_, ?_⟩
  · rw [List.filter_append, List.filter_append, f0, List.map_append, List.append_nil, List.map_append, h.nm]
    simp [hd, hx]
  · intro j e he
    rw [List.filter_append, List.filter_append]
    by_cases hj : j < es.length
    · rw [List.getElem?_append_left hj] at he
      have f1 : rp.filter (fun p => p.2.as_ == 1 && p.2.event == j) = [] := List.filter_eq_nil_iff.2 (fun p hp => by rw [(hr p hp).ev]; simp; omega)
      rw [f1, h.ro j e he]
      simp [hd]
    · have hjl : j = es.length := by
        have := (List.getElem?_eq_some_iff.1 he).1
        simp at this; omega
      subst hjl
      have hxe : e = x := by simpa using he.symm
      subst hxe
      have f1 : rp.filter (fun p => p.2.as_ == 1 && p.2.event == es.length) = rp := List.filter_eq_self.2 (fun p hp => by rw [(hr p hp).ev, (hr p hp).as_]; simp)
      have f2 : ps.filter (fun p => p.2.as_ == 1 && p.2.event == es.length) = [] := List.filter_eq_nil_iff.2 (fun p hp => by
        intro h1
        simp at h1
        have := (hbo p hp h1.1).2
        omega)
      rw [f1, f2, hxr]
      simp [hd]
  · intro e he
    rcases List.mem_append.1 he with he | he
    · exact h.ne e he
    · simp at he; subst he
      refine ⟨by rw [hx]; exact hne, ?_⟩
      intro r hr'
      rw [hxr] at hr'
      obtain ⟨p, hp, rfl⟩ := List.mem_map.1 hr'
      exact (hr p hp).ne
set_option maxHeartbeats 1600000 in
theorem event_line {n : Nat} {l : LK} {q : Dsr.QR} {ps : List Pr} (hb : Bd l q.1 ps) (hT : TGs q) (h2 : q.1.now.kind = 2) :
    Err (Dsr.endT n) (Dsr.eventL (Dsr.endT n) q) (runP l (stream (Dsr.endT n) q)) ∨ Good (Dsr.endT n) (Dsr.eventL (Dsr.endT n) q) (runP l (stream (Dsr.endT n) q)) (l.events.length + l.rules.length + 1) := by
  have hE : (Dsr.endT n).kind = 10 := rfl
  obtain ⟨wt, L, rr, er, es, rs, us, ev, ru⟩ := l
  obtain rfl : wt = 0 := hb.w0
  obtain rfl : er = 0 := hb.le
  obtain rfl : ev = es.length := hb.ce
  have hqe : q.1.events = es := hb.ev.symm
  have hne0 : ¬ (q.1.now.text = [] ∧ (⟨0, L, rr, 0, es, rs, us, es.length, ru⟩ : LK).want = 0) := fun h => by have := hT.1.nil.1 h.1; omega
  have nx0 : nextP ⟨0, L, rr, 0, es, rs, us, es.length, ru⟩ q.1.now = ⟨1, L + 1, rr, if 10 < es.length + 1 then 3 else 0, es, rs, us, es.length + 1, ru⟩ := by
    unfold nextP beginP
    rw [if_pos rfl, if_pos (by rw [hT.1.ev, h2]; rfl)]
  by_cases h10 : q.1.events.length = 10
  · left
    have e : Dsr.eventL (Dsr.endT n) q = Dsr.refuseL (Dsr.endT n) q 3 := by unfold Dsr.eventL; rw [if_pos h10]
    rw [e]
    refine err_of (c := 3) (by decide) hne0 ?_ (refuse_bad hb.rf 3)
    rw [nx0]
    show (if 10 < es.length + 1 then 3 else 0) = 3
    rw [if_pos (by rw [hqe] at h10; omega)]
  have hlt : es.length + 1 ≤ 10 := by
    have h := hb.e10
    have : ¬ es.length = 10 := fun h => h10 (by rw [hqe]; exact h)
    have h : es.length ≤ 10 := h
    omega
  rw [if_neg (by omega)] at nx0
  obtain ⟨qb, hqb⟩ : ∃ qb, Dsr.evBodyL (Dsr.endT n) q = qb := ⟨_, rfl⟩
  obtain ⟨xo, hxo⟩ : ∃ xo, Dsr.evOfL (Dsr.endT n) q = xo := ⟨_, rfl⟩
  have eV : Dsr.eventL (Dsr.endT n) q = ({ qb.1 with events := qb.1.events ++ [xo] }, qb.2) := by unfold Dsr.eventL; rw [if_neg h10, hqb, hxo]
  have badV : ∀ {c a : Nat}, Bad (Dsr.endT n) c a (Dsr.evBodyL (Dsr.endT n) q) → Bad (Dsr.endT n) c a (Dsr.eventL (Dsr.endT n) q) := by intro c a h; rw [hqb] at h; rw [eV]; exact h
  obtain ⟨q1, hq1⟩ : ∃ q1, Dsr.stepL (Dsr.endT n) q = q1 := ⟨_, rfl⟩
  have eT : Dsr.takeL (Dsr.endT n) q 2 = q1 := by rw [takeL_ok h2, hq1]
  have hT1 : TGs q1 := by rw [← hq1]; exact hT.step n
  have f1 : q1.1.fErr = 0 := by rw [← hq1]; exact hb.rf
  have g1 : q1.1.events = es ∧ q1.1.rules = q.1.rules ∧ q1.1.uses = q.1.uses := by rw [← hq1]; exact ⟨hqe, rfl, rfl⟩
  have r1 : runP ⟨0, L, rr, 0, es, rs, us, es.length, ru⟩ (stream (Dsr.endT n) q) = runP ⟨1, L + 1, rr, 0, es, rs, us, es.length + 1, ru⟩ (stream (Dsr.endT n) q1) := by
    rw [run_step (q' := q1) hne0 (by rw [nx0]) (by rw [nx0]; exact (by decide : (1 : Nat) ≤ 9)) (by rw [hq1]), nx0]
  -- the name
  have hne1 : ¬ (q1.1.now.text = [] ∧ (⟨1, L + 1, rr, 0, es, rs, us, es.length + 1, ru⟩ : LK).want = 0) := fun h => by have : (1 : Nat) = 0 := h.2; omega
  have nx1 : nextP ⟨1, L + 1, rr, 0, es, rs, us, es.length + 1, ru⟩ q1.1.now = { namedP ⟨1, L + 1, rr, 0, es, rs, us, es.length + 1, ru⟩ q1.1.now true 1 2 with events := es ++ [⟨q1.1.now.text, [], false, true, false⟩] } := rfl
  have eH : Dsr.evHeadL (Dsr.endT n) q = Dsr.takeL (Dsr.endT n) (Dsr.nameL (Dsr.endT n) q1 0) 3 := by unfold Dsr.evHeadL; rw [eT]
  have badH : ∀ {c a : Nat}, c ≠ 0 → Bad (Dsr.endT n) c a (Dsr.evHeadL (Dsr.endT n) q) → Bad (Dsr.endT n) c a (Dsr.eventL (Dsr.endT n) q) := by
    intro c a hc h
    refine badV ?_
    unfold Dsr.evBodyL Dsr.rolesL
    exact (((h.name hE hc 1).rolesLoop hE 5 _).mark hE).take hE hc (by decide)
  by_cases h11 : q1.1.now.kind = 1
  case neg =>
    left
    rw [r1]
    refine err_of (c := 2) (by decide) hne1 ?_ (badH (by decide) ?_)
    · rw [nx1, named_not hT1.1 h11]
    · rw [eH]; exact (nameL_not h11 f1).take hE (by decide) (by decide)
  by_cases h18 : 8 < q1.1.now.text.length
  · left
    rw [r1]
    refine err_of (c := 3) (by decide) hne1 ?_ (badH (by decide) ?_)
    · rw [nx1, named_big hT1.1 h11 (.inr h18)]
    · rw [eH]; exact (nameL_big hE h11 h18 f1).take hE (by decide) (by decide)
  rw [named_ok hT1.1 h11 rfl h18] at nx1
  obtain ⟨q2, hq2⟩ : ∃ q2, Dsr.stepL (Dsr.endT n) (Dsr.useL q1 (q1.1.uses ++ [useOf q1 0])) = q2 := ⟨_, rfl⟩
  have eN : Dsr.nameL (Dsr.endT n) q1 0 = q2 := by rw [nameL_ok h11 h18, hq2]
  rw [eN] at eH
  have hT2 : TGs q2 := by rw [← hq2]; exact (hT1.use _).step n
  have f2 : q2.1.fErr = 0 := by rw [← hq2]; exact f1
  have g2 : q2.1.events = es ∧ q2.1.rules = q.1.rules ∧ q2.1.uses = q.1.uses ++ [useOf q1 0] := by rw [← hq2]; exact ⟨g1.1, g1.2.1, by show q1.1.uses ++ _ = _; rw [g1.2.2]⟩
  obtain ⟨x0, hx0⟩ : ∃ x0 : Dsr.Ev, x0 = ⟨q1.1.now.text, [], false, true, false⟩ := ⟨_, rfl⟩
  have r2 : runP ⟨1, L + 1, rr, 0, es, rs, us, es.length + 1, ru⟩ (stream (Dsr.endT n) q1) = runP (mk 2 (L + 1) rr es x0 rs (us ++ [⟨q1.1.now, 1, L + 1⟩]) (es.length + 1) ru) (stream (Dsr.endT n) q2) := by
    rw [run_step (q' := q2) hne1 (by rw [nx1]) (by rw [nx1]; exact (by decide : (2 : Nat) ≤ 9)) (by rw [← hq2]; rfl), nx1, hx0]
  -- by
  have hne2 : ¬ (q2.1.now.text = [] ∧ (mk 2 (L + 1) rr es x0 rs (us ++ [⟨q1.1.now, 1, L + 1⟩]) (es.length + 1) ru).want = 0) := fun h => by have : (2 : Nat) = 0 := h.2; omega
  have nx2 : nextP (mk 2 (L + 1) rr es x0 rs (us ++ [⟨q1.1.now, 1, L + 1⟩]) (es.length + 1) ru) q2.1.now = ⟨3, L + 1, 0, if isW q2.1.now = true ∧ q2.1.now.text = [98, 121] then 0 else 2, es ++ [x0], rs, us ++ [⟨q1.1.now, 1, L + 1⟩], es.length + 1, ru⟩ := rfl
  by_cases h23 : q2.1.now.kind = 3
  case neg =>
    left
    rw [r1, r2]
    refine err_of (c := 2) (by decide) hne2 ?_ (badH (by decide) ?_)
    · rw [nx2]; show (if isW q2.1.now = true ∧ q2.1.now.text = [98, 121] then 0 else 2) = 2; rw [if_neg (fun h => h23 (hT2.1.by_.1 h))]
    · rw [eH]; exact takeL_bad h23 f2
  rw [if_pos (hT2.1.by_.2 h23)] at nx2
  obtain ⟨q3, hq3⟩ : ∃ q3, Dsr.stepL (Dsr.endT n) q2 = q3 := ⟨_, rfl⟩
  rw [takeL_ok h23, hq3] at eH
  have hT3 : TGs q3 := by rw [← hq3]; exact hT2.step n
  have f3 : q3.1.fErr = 0 := by rw [← hq3]; exact f2
  have g3 : q3.1.events = es ∧ q3.1.rules = q.1.rules ∧ q3.1.uses = q.1.uses ++ [useOf q1 0] := by rw [← hq3]; exact g2
  have r3 : runP (mk 2 (L + 1) rr es x0 rs (us ++ [⟨q1.1.now, 1, L + 1⟩]) (es.length + 1) ru) (stream (Dsr.endT n) q2) = runP (mk 3 (L + 1) 0 es x0 rs (us ++ [⟨q1.1.now, 1, L + 1⟩]) (es.length + 1) ru) (stream (Dsr.endT n) q3) := by
    rw [run_step (q' := q3) hne2 (by rw [nx2]) (by rw [nx2]; exact (by decide : (3 : Nat) ≤ 9)) (by rw [hq3]), nx2]
  -- the roles
  have ez : Dsr.rolesSizeL (Dsr.endT n) q3 0 = q3 := by unfold Dsr.rolesSizeL; rw [if_neg (by unfold Dsr.bigRoles; simp)]
  have eB : Dsr.evBodyL (Dsr.endT n) q = Dsr.takeL (Dsr.endT n) (Dsr.markL (Dsr.endT n) (Dsr.rolesLoopL (Dsr.endT n) 5 (Dsr.nameL (Dsr.endT n) q3 1) [q3.1.now.text]).1) 8 := by unfold Dsr.evBodyL Dsr.rolesL; rw [eH]
  rcases role_one (n := n) (L := L + 1) (es := es) (rs := rs) (ev := es.length + 1) (ru := ru) (r := 0) (x := x0) (us := us ++ [⟨q1.1.now, 1, L + 1⟩]) hT3 f3 (by rw [hx0]; rfl) g3.1 with h | ⟨p0, hp0, hpn0, -, -, hT4, f4, ge4, gr4, gu4, r4⟩ | h
  · left
    rw [r1, r2, r3]
    rw [ez] at h
    exact h.map (fun c a hc hbd => badV (by rw [eB]; exact ((hbd.rolesLoop hE 5 _).mark hE).take hE hc (by decide)))
  case inr.inr => omega
  obtain ⟨q4, hq4⟩ : ∃ q4, Dsr.nameL (Dsr.endT n) q3 1 = q4 := ⟨_, rfl⟩
  rw [hq4] at hT4 f4 ge4 gr4 gu4 r4 eB
  obtain ⟨x1, hx1⟩ : ∃ x1 : Dsr.Ev, x1 = { x0 with roles := x0.roles ++ [q3.1.now.text] } := ⟨_, rfl⟩
  have hx1r : x1.roles = [q3.1.now.text] := by rw [hx1, hx0]; rfl
  rw [← hx1] at r4
  rw [← hx1r] at eB
  rcases roles_loop (n := n) (L := L + 1) (es := es) (rs := rs) (ev := es.length + 1) (ru := ru) 5 1 x1 (us ++ [⟨q1.1.now, 1, L + 1⟩] ++ [p0.1]) q4 hT4 f4 (by rw [hx1r]; rfl) (by omega) (by omega) (by rw [ge4]; exact g3.1) with h | ⟨r', ps2, k1, hT5, f5, h57, ge5, gr5, gu5, ro5, r5⟩
  · left
    rw [r1, r2, r3, r4]
    exact h.map (fun c a hc hbd => badV (by rw [eB]; exact (hbd.mark hE).take hE hc (by decide)))
  obtain ⟨q5, hq5⟩ : ∃ q5, (Dsr.rolesLoopL (Dsr.endT n) 5 q4 x1.roles).1 = q5 := ⟨_, rfl⟩
  obtain ⟨ro, hro⟩ : ∃ ro, (Dsr.rolesLoopL (Dsr.endT n) 5 q4 x1.roles).2 = ro := ⟨_, rfl⟩
  rw [hq5] at hT5 f5 h57 ge5 gr5 gu5 r5 eB
  rw [hro] at ro5 r5
  -- the marks
  have eO : Dsr.evOfL (Dsr.endT n) q = ⟨q1.1.now.text, ro, decide ((Dsr.takeIfL (Dsr.endT n) (Dsr.takeIfL (Dsr.endT n) q5 4) 5).1.now.kind = 6), !decide (q5.1.now.kind = 4), decide ((Dsr.takeIfL (Dsr.endT n) q5 4).1.now.kind = 5)⟩ := by
    have eRo : Dsr.rolesL (Dsr.endT n) (Dsr.evHeadL (Dsr.endT n) q) = (q5, ro) := by
      unfold Dsr.rolesL
      rw [eH, hq4, ← hx1r]
      exact Prod.ext hq5 hro
    unfold Dsr.evOfL
    rw [eT, eRo]
  rcases m4 (n := n) (L := L + 1) (r := r') (es := es) (x := { x1 with roles := ro }) (rs := rs) (us := us ++ [⟨q1.1.now, 1, L + 1⟩] ++ [p0.1] ++ ps2.map (·.1)) (ev := es.length + 1) (ru := ru) hT5 f5 h57 with h | ⟨hT6, f6, ge6, gr6, gu6, r6⟩
  · left
    rw [r1, r2, r3, r4, r5]
    exact h.map (fun c a hc hbd => badV (by rw [eB]; exact hbd))
  right
  rw [← eB, hqb] at hT6 f6 ge6 gr6 gu6 r6
  have hfin : ({ ({ x1 with roles := ro } : Dsr.Ev) with inn := ({ x1 with roles := ro } : Dsr.Ev).inn && !decide (q5.1.now.kind = 4), due := ({ x1 with roles := ro } : Dsr.Ev).due || decide ((Dsr.takeIfL (Dsr.endT n) q5 4).1.now.kind = 5), done := ({ x1 with roles := ro } : Dsr.Ev).done || decide ((Dsr.takeIfL (Dsr.endT n) (Dsr.takeIfL (Dsr.endT n) q5 4) 5).1.now.kind = 6) } : Dsr.Ev) = xo := by
    rw [← hxo, eO, hx1, hx0]; simp
  rw [hfin] at r6
  have hOn : xo.name = q1.1.now.text := by rw [← hxo, eO]
  have hOr : xo.roles = (p0 :: ps2).map (·.2.name) := by rw [← hxo, eO]; show ro = _; rw [ro5, hx1r, List.map_cons, hpn0]; rfl
  have hro' : ∀ p ∈ p0 :: ps2, RoleP (L + 1) es.length p := by
    intro p hp
    rcases List.mem_cons.1 hp with rfl | hp
    · exact hp0
    · exact k1 p hp
  have hps := hb.pok
  have hd0 : PS (ps ++ [(⟨q1.1.now, 1, L + 1⟩, useOf q1 0)]) := hps.snoc0 ⟨rfl, rfl, rfl, (by decide : (0 : Nat) ≤ 2)⟩ (by decide : (0 : Nat) ≠ 1)
  have hbo : BO ps L es.length := hb.bo
  have hbi : BI (ps ++ [(⟨q1.1.now, 1, L + 1⟩, useOf q1 0)]) (L + 1) es.length := BI.snoc0 hbo.begin (by decide : (0 : Nat) ≠ 1)
  obtain ⟨hpA, hpB⟩ := PS.snocs hd0 hbi hro'
  refine ⟨⟨0, L + 1, r', 0, es ++ [xo], rs, us ++ [⟨q1.1.now, 1, L + 1⟩] ++ [p0.1] ++ ps2.map (·.1), es.length + 1, ru⟩, ps ++ [(⟨q1.1.now, 1, L + 1⟩, useOf q1 0)] ++ (p0 :: ps2), ?_, ?_, ?_, ?_⟩
  rotate_left 3
  · show (es ++ [_]).length + rs.length = _; simp; omega
  · rw [eV]
    refine ⟨?_, ?_, hb.sg, ?_, ?_, hpA, ?_, ?_, ?_, ?_, hb.cr, rfl, f6, rfl, ?_, hb.r20⟩
    · show es ++ _ = qb.1.events ++ _; rw [ge6, ge5, ge4, g3.1]
    · show qb.1.rules = _; rw [gr6, gr5, gr4, g3.2.1]; exact hb.ru
    · show us ++ _ ++ _ ++ _ = _; have : us = ps.map (·.1) := hb.lu; rw [this]; simp
    · show qb.1.uses = _; rw [gu6, gu5, gu4, g3.2.2, hb.us]; simp
    · show BO _ (L + 1) (es ++ [_]).length; rw [List.length_append]; exact hpB.stop
    · exact EvL.event hb.el hbo rfl hOn (fun h => by have := hT1.1.nil.1 h; omega) hro' hOr
    · intro r hr
      obtain ⟨⟨p, hp, h1⟩, ⟨p', hp', h2⟩⟩ := hb.rp r hr
      exact ⟨⟨p, by simp [hp], h1⟩, ⟨p', by simp [hp'], h2⟩⟩
    · show es.length + 1 = (es ++ [_]).length; simp
    · show (es ++ [_]).length ≤ 10; simp; omega
  · rw [eV]; exact hT6
  · rw [r1, r2, r3, r4, r5, r6, eV]; rfl
end Go.Proofs.YtjmcokcdaddpcaaGreatDoor
