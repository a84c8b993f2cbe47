import Derived.Test.YtjmcokcdaddpcaaGreatDoorGrB
import Derived.Test.YtjmcokcdaddpcaaGreatDoorUa
import Derived.Deep.CutRange
set_option linter.unusedVariables false
set_option linter.unusedSimpArgs false
namespace Go.Proofs.YtjmcokcdaddpcaaGreatDoor
open Go.RowKit
def tkC (k : Dsr.Tok) : List Value := [strV k.text, .int .i64 k.at_, .bool (isW k), .int .i64 (sgn k)]
theorem one_tk (k : Dsr.Tok) : ∀ x ∈ tkC k, x.oneCell' = true := by intro x hx; simp [tkC] at hx; rcases hx with rfl | rfl | rfl | rfl <;> rfl
theorem Tryz.infoTok : (Tryz.prog.info? 223).map (fun i => (i.zero, i.size, i.bytes)) = some (some (.agg #[.string ⟨#[]⟩, .int .i64 0, .bool false, .int .i64 0]), 4, 40) := by kernel_rfl
theorem news_l {w : World} {cs : Array Value} {T : TypeId} {N : Nat} (hN : N = w.heap.size) : ∀ j u, cs.toList[j]? = some u → (w.alloc (.cells cs T)).cell? ((⟨N, 0, none⟩ : Addr).add j) = some u := by
  subst hN
  exact World.news_of_block (heap_alloc_new w _)
theorem tok_cell {B n m : Nat} {w1 w5 : World} {a b c d : Value} {T T' : TypeId} {o2 : Obj} {v : Value} {xs : List Value} (hown : w1.ownsRow B T' m v n xs) (hg : ((w1.alloc (.cells #[a, b, c, d] T)).alloc o2).grownBy w5 v.ownBlock) : w5.cell? ⟨w1.heap.size, 0, none⟩ = some a := by
  have hlt : w1.heap.size < ((w1.alloc (.cells #[a, b, c, d] T)).alloc o2).heap.size := by simp; omega
  rw [hg.cell_far ⟨w1.heap.size, 0, none⟩ hlt (fun e => absurd (hown.lt _ e.symm).2 (Nat.lt_irrefl _))]
  have : ((w1.alloc (.cells #[a, b, c, d] T)).alloc o2).heap[w1.heap.size]? = some (.cells #[a, b, c, d] T (0, 0)) := (Below.heap_alloc _ _ _ (by simp)).trans (heap_alloc_new _ _)
  simp [World.cell?, this]
/-- The tokens ahead of a place are these. -/
def LstTo (t : List UInt8) (k : Nat) (ts : List Dsr.Tok) : Prop := ∀ rest, Dsr.Lst t k rest → Dsr.Lst t 0 (ts ++ rest)
theorem lst_from {t : List UInt8} {k m : Nat} (h : Dsr.scan t k = Dsr.scan t m) : ∀ rest, Dsr.Lst t m rest → Dsr.Lst t k rest
  | [], hr => by show Dsr.scan t k = _; rw [h]; exact hr
  | x :: rest, hr => ⟨h.trans hr.1, hr.2⟩
theorem lstTo_blank {t : List UInt8} {k : Nat} {c : UInt8} {ts : List Dsr.Tok} (h : LstTo t k ts) (hc : t[k]? = some c) (hb : Dsr.blank c = true) : LstTo t (k + 1) ts := by
  intro rest hr
  refine h rest (lst_from ?_ rest hr)
  unfold Dsr.scan
  rw [Dsr.blankLen_step hc, if_pos hb]
  have : k + (Dsr.blankLen (t.drop (k + 1)) + 1) = k + 1 + Dsr.blankLen (t.drop (k + 1)) := by omega
  rw [this]
theorem scan_here {t : List UInt8} {k : Nat} {c : UInt8} (hc : t[k]? = some c) (hb : Dsr.blank c = false) : Dsr.scan t k = Dsr.scanAt (t.drop k) k := by
  unfold Dsr.scan
  rw [Dsr.blankLen_step hc, if_neg (by rw [hb]; decide), Nat.add_zero]
theorem scanAt_at (l : List UInt8) (k : Nat) : (Dsr.scanAt l k).at_ = k := by
  unfold Dsr.scanAt
  split
  · rfl
  · split
    · rfl
    · unfold Dsr.scanSign
      split <;> rfl
theorem lstTo_tok {t : List UInt8} {k : Nat} {c : UInt8} {ts : List Dsr.Tok} (h : LstTo t k ts) (hc : t[k]? = some c) (hb : Dsr.blank c = false) : LstTo t (k + (Dsr.scanAt (t.drop k) k).text.length) (ts ++ [Dsr.scanAt (t.drop k) k]) := by
  intro rest hr
  rw [List.append_assoc]
  refine h _ ⟨scan_here hc hb, ?_⟩
  rw [scanAt_at]
  exact hr
theorem tok_some {s : ByteArray} {k : Nat} (h : k < s.size) : 0 < (Dsr.scanAt (s.data.toList.drop k) k).text.length ∧ k + (Dsr.scanAt (s.data.toList.drop k) k).text.length ≤ s.size := by
  have hd : s.data.toList.drop k = s[k] :: s.data.toList.drop (k + 1) := by
    rw [List.drop_eq_getElem_cons (by simpa using h)]
    rfl
  have hlen : (s.data.toList.drop k).length = s.size - k := by simp
  constructor
  · rw [hd]
    show 0 < (if Dsr.letter s[k] = true then Dsr.scanWord _ k else Dsr.scanSign _ k).text.length
    split
    · rename_i hl
      unfold Dsr.scanWord
      simp only [List.length_take]
      have : 0 < Dsr.wordLen (s[k] :: s.data.toList.drop (k + 1)) := by
        unfold Dsr.wordLen
        rw [if_pos (by simp [Dsr.wordy, hl])]
        omega
      simp; omega
    · unfold Dsr.scanSign
      split
      · rename_i h5
        generalize Dsr.signOf _ = m at *
        rcases m with _ | _ | _ | _ | _ | m
        · simp [Dsr.signs]
        · simp [Dsr.signs]
        · simp [Dsr.signs]
        · simp [Dsr.signs]
        · simp [Dsr.signs]
        · omega
      · simp
  · by_cases hb : Dsr.blank s[k] = true
    · rw [hd]
      show k + (if Dsr.letter s[k] = true then Dsr.scanWord _ k else Dsr.scanSign _ k).text.length ≤ _
      have hnl : Dsr.letter s[k] = false := by
        unfold Dsr.blank at hb; unfold Dsr.letter
        simp at hb ⊢; omega
      rw [if_neg (by rw [hnl]; decide)]
      have h5 : ¬ Dsr.signOf (s[k] :: s.data.toList.drop (k + 1)) < 5 := by
        intro h5
        have hp : (Dsr.signs.getD (Dsr.signOf (s[k] :: s.data.toList.drop (k + 1))) []).isPrefixOf (s[k] :: s.data.toList.drop (k + 1)) = true := by
          rcases hb2 : (Dsr.signs.getD (Dsr.signOf (s[k] :: s.data.toList.drop (k + 1))) []).isPrefixOf (s[k] :: s.data.toList.drop (k + 1)) with _ | _
          · have := Dsr.signOf_next _ _ (Nat.le_refl _) h5 hb2; omega
          · rfl
        have hne : ∀ m, m < 5 → (Dsr.signs.getD m []).isPrefixOf (s[k] :: s.data.toList.drop (k + 1)) = true → s[k] = 45 ∨ s[k] = 42 := by
          intro m hm hp
          rcases m with _ | _ | _ | _ | _ | m
          all_goals first
            | omega
            | (simp [Dsr.signs, List.isPrefixOf] at hp; first | exact .inl hp.1.symm | exact .inr hp.1.symm)
        rcases hne _ h5 hp with e | e <;> rw [e] at hb <;> exact absurd hb (by decide)
      unfold Dsr.scanSign
      rw [if_neg h5]
      simp
      omega
    · have hc : s.data.toList[k]? = some s[k] := byte_some s k h
      have := Dsr.scan_ok s.data.toList k (by simp; omega)
      rw [scan_here hc (by simpa using hb), scanAt_at] at this
      simpa using this
theorem rtoken_any (s : ByteArray) (n : Nat) (w : World) (hs : s.size ≤ 400) (hn : n < s.size) :
    Calls Tryz.prog 161 #[.string s, .int .i64 n] w fun e w' => e = .returned (tkV (Dsr.scanAt (s.data.toList.drop n) n)) ∧ Below w.heap.size w w' := by
  have hd : s.data.toList.drop n = s[n] :: s.data.toList.drop (n + 1) := by
    rw [List.drop_eq_getElem_cons (by simpa using hn)]
    rfl
  have e : Dsr.scanAt (s.data.toList.drop n) n = if Dsr.letter s[n] = true then Dsr.scanWord (s.data.toList.drop n) n else Dsr.scanSign (s.data.toList.drop n) n := by
    rw [hd]; rfl
  rw [e]
  rcases hl : Dsr.letter s[n] with _ | _
  · rw [if_neg (by decide)]
    exact rtoken_sign s n w hs hn hl
  · rw [if_pos rfl]
    exact rtoken_word s n w hs hn hl
set_option maxRecDepth 100000 in
set_option maxHeartbeats 1600000 in
theorem rTokens_any (s : ByteArray) (w : World) (hs : s.size ≤ 400) :
    Calls Tryz.prog 112 #[.string s] w fun e w' => ∃ v ts, e = .returned v ∧ Dsr.Lst s.data.toList 0 ts ∧ ts.length ≤ 400 ∧ w'.ownsRow w.heap.size 223 4 v (ts.length + 1) ((ts ++ [Dsr.endT s.size]).flatMap tkC) ∧ Below w.heap.size w w' := by
  have hsI : (s.size : Int) ≤ 400 := by omega
  go_enter Tryz.func112, Tryz.ntmps112
  go_wp2_with fail
  go_loopg [3, 4] s.size (fun g v i wr => ∃ (k : Nat) (ts : List Dsr.Tok), i = .int .i64 k ∧ k + g = s.size ∧ ts.length ≤ k ∧ LstTo s.data.toList k ts ∧ wr.ownsRow w.heap.size 223 4 v ts.length (ts.flatMap tkC) ∧ Below w.heap.size w wr)
  case atStart => exact ⟨0, [], rfl, by omega, Nat.le_refl _, fun rest hr => hr, World.ownsRow_nil _ _ _ _, Below.refl _ _⟩
  case round =>
    obtain ⟨k, ts, rfl, hk, htl, hto, hown, hb⟩ := hrel
    obtain ⟨av, cv, rfl⟩ := owned_shape hown
    have H : Hid (LstTo s.data.toList k ts ∧ wr.ownsRow w.heap.size 223 4 (.slice av ts.length cv) ts.length (ts.flatMap tkC) ∧ Below w.heap.size w wr) := ⟨hto, hown, hb⟩
    have hwr : w.heap.size ≤ wr.heap.size := hb.size
    clear hto hown hb
    obtain ⟨i0, hi, hz0, hz1, hz2⟩ := info_parts Tryz.infoTok
    by_cases hlt : k < s.size
    · have HC : Hid (s.data.toList[k]? = some s[k]) := byte_some s k hlt
      rcases hbl : Dsr.blank s[k] with _ | _
      · have HBL : Hid (Dsr.blank s[k] = false) := hbl
        have b1 : ((s[k].toNat : Int) == 32) = false := by unfold Dsr.blank at hbl; simp at hbl ⊢; omega
        have b2 : ((s[k].toNat : Int) == 9) = false := by unfold Dsr.blank at hbl; simp at hbl ⊢; omega
        have b3 : ((s[k].toNat : Int) == 10) = false := by unfold Dsr.blank at hbl; simp at hbl ⊢; omega
        clear hbl
        go_wp2_with fail
        refine (rtoken_any s k _ hs hlt).mono ?_
        rintro e w1 ⟨rfl, hb1⟩
        have hts := tok_some hlt
        have HT := lstTo_tok H.out.1 HC.out HBL.out
        have H1 : Hid (Below w.heap.size w w1 ∧ w1.ownsRow w.heap.size 223 4 (.slice av ts.length cv) ts.length (ts.flatMap tkC) ∧ LstTo s.data.toList (k + (Dsr.scanAt (s.data.toList.drop k) k).text.length) (ts ++ [Dsr.scanAt (s.data.toList.drop k) k])) := ⟨H.out.2.2.trans (hb1.mono hwr), ownsRow_of_block H.out.2.1 (fun k hk _ => hb1.block k hk), HT⟩
        have hw1 : w.heap.size ≤ w1.heap.size := H1.out.1.size
        clear hb1 HT
        generalize Dsr.scanAt (s.data.toList.drop k) k = tk at *
        go_wp2_with (at_builtin; refine wpList_append_lies _ rfl (.tmp 31) (.tmp 33) 212 rfl w.heap.size 223 i0 _ 4 40 Tryz.underlying212 hi hz0 hz1 hz2 rfl (by decide) (.slice av ts.length cv) ts.length _ (by simp [Act.eval, Act.put]) ((H1.out.2.1.alloc _).alloc _) ⟨w1.heap.size + 1, 0, none⟩ 1 1 (tkC tk) (by simp [Act.eval, Act.put]) rfl (by exact news_l (by simp)) (one_tk tk) (by decide) (by unfold maxLen; omega) (by omega) (by simp; omega) _ rfl ?_; intro g' cap w5 hown hgrow hat hlt5; have hcl := tok_cell H1.out.2.1 hgrow)
        have b5 : Below w.heap.size w w5 := ((H1.out.1.alloc hw1 _).alloc (by simp; omega) _).grown hgrow (by simp; omega) (fun k hk => (H1.out.2.1.lt k hk).1)
        go_roundg (s.size - (k + tk.text.length))
        case measure => omega
        case rel => exact ⟨k + tk.text.length, ts ++ [tk], by go_num, by omega, by simp; omega, H1.out.2.2, by simpa using hown, b5⟩
      · have HBL : Hid (Dsr.blank s[k] = true) := hbl
        have hcs : (s[k].toNat : Int) = 32 ∨ (s[k].toNat : Int) = 9 ∨ (s[k].toNat : Int) = 10 := by unfold Dsr.blank at hbl; simp at hbl; omega
        clear hbl
        rcases hcs with h1 | h1 | h1
        all_goals
          go_wp2_with fail
          go_roundg (s.size - (k + 1))
          case measure => omega
          case rel => exact ⟨k + 1, ts, by go_num, by omega, by omega, lstTo_blank H.out.1 HC.out HBL.out, H.out.2.1, H.out.2.2⟩
    · have hks : k = s.size := by omega
      subst hks
      clear hlt
      have HL : Hid (Dsr.Lst s.data.toList 0 ts) := by
        show Dsr.Lst _ _ _
        have := H.out.1 [] (by have := Dsr.lst_end s.data.toList; simpa using this)
        simpa using this
      go_wp2_with (at_builtin; refine wpList_append_lies _ rfl (.tmp 40) (.tmp 44) 212 rfl w.heap.size 223 i0 _ 4 40 Tryz.underlying212 hi hz0 hz1 hz2 rfl (by decide) (.slice av ts.length cv) ts.length _ (by simp [Act.eval, Act.put]) (H.out.2.1.alloc _) ⟨wr.heap.size, 0, none⟩ 1 1 (tkC (Dsr.endT s.size)) (by simp [Act.eval, Act.put]) rfl (by exact news_l (by simp)) (one_tk _) (by decide) (by unfold maxLen; omega) (by omega) (by simp; omega) _ rfl ?_; intro g' cap w5 hown hgrow hat hlt5)
      have b5 : Below w.heap.size w w5 := (H.out.2.2.alloc hwr _).grown hgrow (by simp; omega) (fun k hk => (H.out.2.1.lt k hk).1)
      go_ret
      exact ⟨_, ts, rfl, HL.out, by omega, by simpa using hown, b5⟩
end Go.Proofs.YtjmcokcdaddpcaaGreatDoor
set_option linter.unusedVariables false
set_option linter.unusedSimpArgs false
namespace Go.Proofs.YtjmcokcdaddpcaaGreatDoor
open Go.RowKit
/-! The reference's look, as a function. -/
structure RR where
  sign : Nat
  left : List UInt8
  right : List UInt8
structure RU where
  tk : Dsr.Tok
  what : Nat
  line : Nat
structure LK where
  want : Nat
  lines : Nat
  roles : Nat
  e : Nat
  events : List Dsr.Ev
  rules : List RR
  uses : List RU
  event : Nat
  rule : Nat
def isName (k : Dsr.Tok) : Bool := isW k && (Dsr.wordKind k.text == 1)
def badSize (k : Dsr.Tok) (room : Bool) : Bool := !room || decide (8 < k.text.length)
def namedP (l : LK) (k : Dsr.Tok) (room : Bool) (what want : Nat) : LK :=
  if isName k = false then { l with e := 2 } else if badSize k room = true then { l with e := 3 } else { l with uses := l.uses ++ [⟨k, what, l.lines⟩], want := want }
def isEvent (k : Dsr.Tok) : Bool := isW k && (k.text == [101, 118, 101, 110, 116])
def beginP (l : LK) (k : Dsr.Tok) : LK :=
  if isEvent k = true then { l with lines := l.lines + 1, event := l.event + 1, want := 1, e := if 10 < l.event + 1 then 3 else l.e }
  else { namedP { l with lines := l.lines + 1, rule := l.rule + 1 } k (decide (l.rule + 1 ≤ 20)) 3 8 with rules := l.rules ++ [⟨0, k.text, []⟩] }
def modLast {α : Type} (f : α → α) (l : List α) : List α := l.modify (l.length - 1) f
def markP (l : LK) (k : Dsr.Tok) : LK :=
  if k.text = [44] ∧ l.want = 4 then { l with want := 3 }
  else if k.text = [111, 117, 116] ∧ l.want = 4 then { l with want := 5, events := modLast (fun x => { x with inn := false }) l.events }
  else if k.text = [100, 117, 101] ∧ l.want ≤ 5 then { l with want := 6, events := modLast (fun x => { x with due := true }) l.events }
  else if k.text = [100, 111, 110, 101] ∧ l.want ≤ 6 then { l with want := 7, events := modLast (fun x => { x with done := true }) l.events }
  else if k.text = [59] then { l with want := 0 } else { l with e := 2 }
def nextP (l : LK) (k : Dsr.Tok) : LK :=
  if l.want = 0 then beginP l k
  else if l.want = 1 then { namedP l k true 1 2 with events := l.events ++ [⟨k.text, [], false, true, false⟩] }
  else if l.want = 2 then { l with want := 3, roles := 0, e := if isW k = true ∧ k.text = [98, 121] then l.e else 2 }
  else if l.want = 3 then { namedP { l with roles := l.roles + 1 } k (decide (l.roles + 1 ≤ 4)) 2 4 with events := modLast (fun x => { x with roles := x.roles ++ [k.text] }) l.events }
  else if l.want = 8 then { l with want := 9, rules := modLast (fun x => { x with sign := sgn k }) l.rules, e := if sgn k = 0 then 2 else l.e }
  else if l.want = 9 then { namedP l k true 3 7 with rules := modLast (fun x => { x with right := k.text }) l.rules }
  else if l.want = 7 then { l with want := 0, e := if k.text = [59] then l.e else 2 }
  else markP l k
/-! The look in memory. -/
structure LS where
  ve : Value
  vr : Value
  vu : Value
  rv : List Value
def rrC (r : RR) : List Value := [.int .i64 r.sign, strV r.left, strV r.right]
def ruC (u : RU) : List Value := tkC u.tk ++ [.int .i64 u.what, .int .i64 u.line]
abbrev lkCells (l : LK) (s : LS) : Array Value := #[.int .i64 l.want, .int .i64 l.lines, .int .i64 l.roles, .int .i64 l.e, s.ve, s.vr, s.vu, .int .i64 l.event, .int .i64 l.rule]
def roleRows (es : List Dsr.Ev) (rv : List Value) : List Row := List.zipWith (fun e v => ⟨v, 9, 1, e.roles.length, e.roles.map strV⟩) es rv
def lkRows (l : LK) (s : LS) : List Row :=
  ⟨s.ve, 226, 5, l.events.length, evCells l.events s.rv⟩ :: ⟨s.vr, 269, 3, l.rules.length, l.rules.flatMap rrC⟩ :: ⟨s.vu, 271, 6, l.uses.length, l.uses.flatMap ruC⟩ :: roleRows l.events s.rv
structure LkAt (B b : Nat) (w : World) (l : LK) (s : LS) : Prop where
  blk : w.heap[b]? = some (.cells (lkCells l s) 221 (0, 0))
  rows : RowsOk B w [b] (lkRows l s)
  len : s.rv.length = l.events.length
abbrev LMine (b : Nat) (l : LK) (s : LS) : Nat → Prop := Owns [b] (lkRows l s)
/-- The look has gone on. -/
structure LNext (B b : Nat) (w : World) (l : LK) (s : LS) (w' : World) (l' : LK) (s' : LS) : Prop where
  lk : LkAt B b w' l' s'
  kp : Kp (LMine b l s) w w'
  mine : ∀ k, LMine b l' s' k → LMine b l s k ∨ w.heap.size ≤ k
section
variable {B b : Nat} {w w' w2 : World} {l l' l2 : LK} {s s' s2 : LS}
theorem LkAt.lt (h : LkAt B b w l s) : b < w.heap.size := (h.rows.low b (by simp)).2
theorem LkAt.low (h : LkAt B b w l s) : B ≤ b := (h.rows.low b (by simp)).1
theorem LNext.refl (h : LkAt B b w l s) : LNext B b w l s w l s := ⟨h, Kp.refl _ _, fun _ h => .inl h⟩
theorem LNext.trans (h : LNext B b w l s w' l' s') (h' : LNext B b w' l' s' w2 l2 s2) : LNext B b w l s w2 l2 s2 :=
  ⟨h'.lk, h.kp.trans h'.kp h.mine, fun k hk => by
    rcases h'.mine k hk with h1 | h1
    · exact h.mine k h1
    · right; have := h.kp.size; omega⟩
/-- A cell of the look's own block is written; its lists stay. -/
theorem LkAt.put (h : LkAt B b w l s) (o : Nat) (v : Value) (hc : (lkCells l s).setIfInBounds o v = lkCells l' s) (he : l'.events = l.events) (hr : l'.rules = l.rules) (hu : l'.uses = l.uses) :
    LNext B b w l s (w.setCell ⟨b, o, none⟩ v) l' s := by
  have e : lkRows l' s = lkRows l s := by unfold lkRows; rw [he, hr, hu]
  refine ⟨⟨?_, by rw [e]; exact h.rows.put (by simp) o v, by rw [he]; exact h.len⟩, (Kp.refl _ _).setCell (.inl (.inl (by simp))) _, fun k hk => .inl (by unfold LMine at hk; rw [e] at hk; exact hk)⟩
  rw [blk_set h.blk, hc]
theorem LNext.put (h : LNext B b w l s w' l' s') (o : Nat) (v : Value) (hc : (lkCells l' s').setIfInBounds o v = lkCells l2 s') (he : l2.events = l'.events) (hr : l2.rules = l'.rules) (hu : l2.uses = l'.uses) :
    LNext B b w l s (w'.setCell ⟨b, o, none⟩ v) l2 s' := h.trans (h.lk.put o v hc he hr hu)
/-- Memory that is made aside, draws. -/
theorem LNext.aside (h : LNext B b w l s w' l' s') (hb : Below w'.heap.size w' w2) : LNext B b w l s w2 l' s' :=
  h.trans ⟨⟨by rw [hb.block b h.lk.lt]; exact h.lk.blk, h.lk.rows.same hb.size (fun k hk _ => hb.block k hk), h.lk.len⟩, (Kp.refl _ _).ofBelow hb, fun _ h => .inl h⟩
end
end Go.Proofs.YtjmcokcdaddpcaaGreatDoor
set_option linter.unusedVariables false
set_option linter.unusedSimpArgs false
namespace Go.Proofs.YtjmcokcdaddpcaaGreatDoor
open Go.RowKit
theorem flat_mod {α : Type} (C : α → List Value) (m : Nat) (hC : ∀ x, (C x).length = m) (f : α → α) (j : Nat) (u : Value) (hj : j < m) : ∀ (l : List α) (i : Nat), (∀ x, l[i]? = some x → C (f x) = (C x).set j u) → (l.modify i f).flatMap C = if i < l.length then (l.flatMap C).set (i * m + j) u else l.flatMap C
  | [], i, _ => by simp
  | a :: l, 0, h => by
    simp only [List.modify_zero_cons, List.flatMap_cons, List.length_cons]
    rw [h a rfl, if_pos (by omega), Nat.zero_mul, Nat.zero_add, List.set_append_left _ _ (by rw [hC]; exact hj)]
  | a :: l, i + 1, h => by
    have ih := flat_mod C m hC f j u hj l i (fun x hx => h x (by simpa using hx))
    simp only [List.modify_succ_cons, List.flatMap_cons, List.length_cons]
    rw [ih]
    by_cases hi : i < l.length
    · rw [if_pos hi, if_pos (by omega), List.set_append_right _ _ (by rw [hC, Nat.succ_mul]; omega), hC]
      congr 2
      rw [Nat.succ_mul]; omega
    · rw [if_neg hi, if_neg (by omega)]
theorem ev_mod (f : Dsr.Ev → Dsr.Ev) (j : Nat) (u : Value) (hj : j < 5) : ∀ (es : List Dsr.Ev) (rv : List Value) (i : Nat), (∀ x v, es[i]? = some x → rv[i]? = some v → evC (f x) v = (evC x v).set j u) → rv.length = es.length → evCells (es.modify i f) rv = if i < es.length then (evCells es rv).set (i * 5 + j) u else evCells es rv
  | [], rv, i, _, _ => by simp
  | a :: es, [], i, _, h => by simp at h
  | a :: es, b :: rv, 0, h, hl => by
    simp only [List.modify_zero_cons, List.length_cons]
    show evC (f a) b ++ evCells es rv = _
    rw [h a b rfl rfl, if_pos (by omega), Nat.zero_mul, Nat.zero_add]
    show _ = (evC a b ++ evCells es rv).set j u
    rw [List.set_append_left _ _ (by simpa [evC] using hj)]
  | a :: es, b :: rv, i + 1, h, hl => by
    have ih := ev_mod f j u hj es rv i (fun x v hx hv => h x v (by simpa using hx) (by simpa using hv)) (by simpa using hl)
    simp only [List.modify_succ_cons, List.length_cons]
    show evC a b ++ evCells (es.modify i f) rv = _
    rw [ih]
    by_cases hi : i < es.length
    · rw [if_pos hi, if_pos (by omega)]
      show _ = (evC a b ++ evCells es rv).set ((i + 1) * 5 + j) u
      rw [List.set_append_right _ _ (by simp [evC]; omega)]
      congr 2
      simp [evC]; omega
    · rw [if_neg hi, if_neg (by omega)]; rfl
theorem ev_roles (v' : Value) (f : Dsr.Ev → Dsr.Ev) (hf : ∀ x, (f x).name = x.name ∧ (f x).done = x.done ∧ (f x).inn = x.inn ∧ (f x).due = x.due) : ∀ (es : List Dsr.Ev) (rv : List Value) (i : Nat), rv.length = es.length → i < es.length → evCells (es.modify i f) (rv.set i v') = (evCells es rv).set (i * 5 + 1) v'
  | [], rv, i, _, h => by simp at h
  | a :: es, [], i, h, _ => by simp at h
  | a :: es, b :: rv, 0, hl, hi => by
    obtain ⟨h1, h2, h3, h4⟩ := hf a
    show evC (f a) v' ++ evCells es rv = (evC a b ++ evCells es rv).set (0 * 5 + 1) v'
    rw [List.set_append_left _ _ (by simp [evC])]
    simp [evC, h1, h2, h3, h4]
  | a :: es, b :: rv, i + 1, hl, hi => by
    have ih := ev_roles v' f hf es rv i (by simpa using hl) (by simpa using hi)
    show evC a b ++ evCells (es.modify i f) (rv.set i v') = (evC a b ++ evCells es rv).set ((i + 1) * 5 + 1) v'
    rw [ih, List.set_append_right _ _ (by simp [evC]; omega)]
    congr 2
    simp [evC]; omega
theorem evCells_sn : ∀ (es : List Dsr.Ev) (vs : List Value) (e : Dsr.Ev) (v : Value), vs.length = es.length → evCells (es ++ [e]) (vs ++ [v]) = evCells es vs ++ evC e v
  | [], [], e, v, _ => by simp [evCells]
  | a :: es, b :: vs, e, v, h => by
    show evC a b ++ evCells (es ++ [e]) (vs ++ [v]) = evC a b ++ evCells es vs ++ evC e v
    rw [evCells_sn es vs e v (by simpa using h), List.append_assoc]
  | [], b :: vs, e, v, h => by simp at h
  | a :: es, [], e, v, h => by simp at h
theorem roleRows_mod (f : Dsr.Ev → Dsr.Ev) (hf : ∀ x, (f x).roles = x.roles) : ∀ (es : List Dsr.Ev) (rv : List Value) (i : Nat), roleRows (es.modify i f) rv = roleRows es rv
  | [], rv, i => by simp
  | a :: es, [], i => by cases i <;> simp [roleRows]
  | a :: es, b :: rv, 0 => by simp [roleRows, hf a]
  | a :: es, b :: rv, i + 1 => by
    have := roleRows_mod f hf es rv i
    simp only [List.modify_succ_cons]
    show _ :: roleRows (es.modify i f) rv = _
    rw [this]; rfl
theorem roleRows_set (f : Dsr.Ev → Dsr.Ev) (v' : Value) : ∀ (es : List Dsr.Ev) (rv : List Value) (i : Nat) (x : Dsr.Ev), es[i]? = some x → rv.length = es.length → roleRows (es.modify i f) (rv.set i v') = (roleRows es rv).set i ⟨v', 9, 1, (f x).roles.length, (f x).roles.map strV⟩
  | [], rv, i, x, h, _ => by simp at h
  | a :: es, [], i, x, _, h => by simp at h
  | a :: es, b :: rv, 0, x, h, hl => by
    have : a = x := by simpa using h
    subst this
    rfl
  | a :: es, b :: rv, i + 1, x, h, hl => by
    have ih := roleRows_set f v' es rv i x (by simpa using h) (by simpa using hl)
    show _ :: roleRows (es.modify i f) (rv.set i v') = _ :: (roleRows es rv).set i _
    rw [ih]
theorem roleRows_at (es : List Dsr.Ev) (rv : List Value) (i : Nat) (x : Dsr.Ev) (v : Value) (h : es[i]? = some x) (hv : rv[i]? = some v) : (roleRows es rv)[i]? = some ⟨v, 9, 1, x.roles.length, x.roles.map strV⟩ := by
  unfold roleRows
  rw [List.getElem?_zipWith, h, hv]
theorem roleRows_sn : ∀ (es : List Dsr.Ev) (rv : List Value) (x : Dsr.Ev) (v : Value), rv.length = es.length → roleRows (es ++ [x]) (rv ++ [v]) = roleRows es rv ++ [⟨v, 9, 1, x.roles.length, x.roles.map strV⟩] := by
  intro es rv x v h
  unfold roleRows
  rw [List.zipWith_append h.symm]
  rfl
section
variable {B b : Nat} {w w' : World} {l : LK} {s : LS}
/-- From one state of the rows to the next: what the look keeps. -/
theorem lnext_of {l' : LK} {s' : LS} {row : Option Nat} (h : LkAt B b w l s) (hg : w.grownBy w' row) (hrow : ∀ k, row = some k → LMine b l s k ∧ k ≠ b) (o : Nat) (v : Value) (hrows : RowsOk B w' [b] (lkRows l' s')) (hcell : (lkCells l s).setIfInBounds o v = lkCells l' s') (hlen : s'.rv.length = l'.events.length)
    (hmine : ∀ k, LMine b l' s' k → LMine b l s k ∨ w.heap.size ≤ k) : LNext B b w l s (w'.setCell ⟨b, o, none⟩ v) l' s' := by
  have hbw : w'.heap[b]? = w.heap[b]? := hg.block b h.lt (fun e => (hrow b e.symm).2 rfl)
  refine ⟨⟨?_, hrows.put (by simp) o v, hlen⟩, ((Kp.refl _ _).grown hg (fun k hk => .inl (hrow k hk).1)).setCell (.inl (.inl (by simp))) _, hmine⟩
  rw [blk_set (hbw.trans h.blk), hcell]
theorem owns_set {fs : List Nat} {rows : List Row} {i : Nat} {r r' : Row} {N : Nat} (hr : rows[i]? = some r) (hat : ∀ g, r'.v.ownBlock = some g → r.v.ownBlock = some g ∨ N ≤ g) {k : Nat} (hk : Owns fs (rows.set i r') k) : Owns fs rows k ∨ N ≤ k := by
  rcases hk with hk | ⟨q, hq, hk⟩
  · exact .inl (.inl hk)
  · rcases List.mem_or_eq_of_mem_set hq with hq | rfl
    · exact .inl (.inr ⟨q, hq, hk⟩)
    · rcases hat k hk with h | h
      · exact .inl (.inr ⟨r, List.mem_of_getElem? hr, h⟩)
      · exact .inr h
theorem at_of {v : Option Nat} {g n c N : Nat} (hat : v = some g ∨ g = N) : ∀ k, (Value.slice (some ⟨g, 0, none⟩) n c).ownBlock = some k → v = some k ∨ N ≤ k := by
  intro k hk
  have : g = k := by simpa [Value.ownBlock] using hk
  subst this
  rcases hat with h | h
  · exact .inl h
  · exact .inr (by omega)
theorem LkAt.own0 (h : LkAt B b w l s) : w.ownsRow B 226 5 s.ve l.events.length (evCells l.events s.rv) := h.rows.own ⟨s.ve, 226, 5, l.events.length, evCells l.events s.rv⟩ (by simp [lkRows])
theorem LkAt.own1 (h : LkAt B b w l s) : w.ownsRow B 269 3 s.vr l.rules.length (l.rules.flatMap rrC) := h.rows.own ⟨s.vr, 269, 3, l.rules.length, l.rules.flatMap rrC⟩ (by simp [lkRows])
theorem LkAt.own2 (h : LkAt B b w l s) : w.ownsRow B 271 6 s.vu l.uses.length (l.uses.flatMap ruC) := h.rows.own ⟨s.vu, 271, 6, l.uses.length, l.uses.flatMap ruC⟩ (by simp [lkRows])
theorem LkAt.rowMine (h : LkAt B b w l s) {r : Row} (hr : r ∈ lkRows l s) : ∀ k, r.v.ownBlock = some k → LMine b l s k ∧ k ≠ b := fun k hk => ⟨.inr ⟨r, hr, hk⟩, fun e => h.rows.notFixed hr hk (by simp [e])⟩
/-- One use more. -/
theorem LkAt.useAdd (h : LkAt B b w l s) (u : RU) {g cap : Nat} (hown : w'.ownsRow B 271 6 (.slice (some ⟨g, 0, none⟩) (l.uses.length + 1) cap) (l.uses.length + 1) (l.uses.flatMap ruC ++ ruC u)) (hg : w.grownBy w' s.vu.ownBlock) (hat : s.vu.ownBlock = some g ∨ g = w.heap.size) :
    LNext B b w l s (w'.setCell ⟨b, 6, none⟩ (.slice (some ⟨g, 0, none⟩) (l.uses.length + 1) cap)) { l with uses := l.uses ++ [u] } { s with vu := .slice (some ⟨g, 0, none⟩) (l.uses.length + 1) cap } := by
  have hr : (lkRows l s)[2]? = some ⟨s.vu, 271, 6, l.uses.length, l.uses.flatMap ruC⟩ := rfl
  have e : lkRows { l with uses := l.uses ++ [u] } { s with vu := .slice (some ⟨g, 0, none⟩) (l.uses.length + 1) cap } = (lkRows l s).set 2 ⟨.slice (some ⟨g, 0, none⟩) (l.uses.length + 1) cap, 271, 6, l.uses.length + 1, l.uses.flatMap ruC ++ ruC u⟩ := by
    simp [lkRows]
  refine lnext_of h hg (fun k hk => h.rowMine (List.mem_of_getElem? hr) k hk) 6 _ ?_ rfl h.len ?_
  · rw [e]
    exact h.rows.setRow hr hown hg.size (fun k hk hn => hg.block k hk hn) (at_of hat)
  · intro k hk
    unfold LMine at hk
    rw [e] at hk
    exact owns_set hr (at_of hat) hk
/-- One rule more. -/
theorem LkAt.ruleAdd (h : LkAt B b w l s) (u : RR) {g cap : Nat} (hown : w'.ownsRow B 269 3 (.slice (some ⟨g, 0, none⟩) (l.rules.length + 1) cap) (l.rules.length + 1) (l.rules.flatMap rrC ++ rrC u)) (hg : w.grownBy w' s.vr.ownBlock) (hat : s.vr.ownBlock = some g ∨ g = w.heap.size) :
    LNext B b w l s (w'.setCell ⟨b, 5, none⟩ (.slice (some ⟨g, 0, none⟩) (l.rules.length + 1) cap)) { l with rules := l.rules ++ [u] } { s with vr := .slice (some ⟨g, 0, none⟩) (l.rules.length + 1) cap } := by
  have hr : (lkRows l s)[1]? = some ⟨s.vr, 269, 3, l.rules.length, l.rules.flatMap rrC⟩ := rfl
  have e : lkRows { l with rules := l.rules ++ [u] } { s with vr := .slice (some ⟨g, 0, none⟩) (l.rules.length + 1) cap } = (lkRows l s).set 1 ⟨.slice (some ⟨g, 0, none⟩) (l.rules.length + 1) cap, 269, 3, l.rules.length + 1, l.rules.flatMap rrC ++ rrC u⟩ := by
    simp [lkRows]
  refine lnext_of h hg (fun k hk => h.rowMine (List.mem_of_getElem? hr) k hk) 5 _ ?_ rfl h.len ?_
  · rw [e]
    exact h.rows.setRow hr hown hg.size (fun k hk hn => hg.block k hk hn) (at_of hat)
  · intro k hk
    unfold LMine at hk
    rw [e] at hk
    exact owns_set hr (at_of hat) hk
/-- One event more, with no role yet. -/
theorem LkAt.eventAdd (h : LkAt B b w l s) (u : Dsr.Ev) (hu : u.roles = []) {g cap : Nat} (hown : w'.ownsRow B 226 5 (.slice (some ⟨g, 0, none⟩) (l.events.length + 1) cap) (l.events.length + 1) (evCells l.events s.rv ++ evC u (.slice none 0 0))) (hg : w.grownBy w' s.ve.ownBlock) (hat : s.ve.ownBlock = some g ∨ g = w.heap.size) :
    LNext B b w l s (w'.setCell ⟨b, 4, none⟩ (.slice (some ⟨g, 0, none⟩) (l.events.length + 1) cap)) { l with events := l.events ++ [u] } { s with ve := .slice (some ⟨g, 0, none⟩) (l.events.length + 1) cap, rv := s.rv ++ [.slice none 0 0] } := by
  have hr : (lkRows l s)[0]? = some ⟨s.ve, 226, 5, l.events.length, evCells l.events s.rv⟩ := rfl
  have e : lkRows { l with events := l.events ++ [u] } { s with ve := .slice (some ⟨g, 0, none⟩) (l.events.length + 1) cap, rv := s.rv ++ [.slice none 0 0] } = (lkRows l s).set 0 ⟨.slice (some ⟨g, 0, none⟩) (l.events.length + 1) cap, 226, 5, l.events.length + 1, evCells l.events s.rv ++ evC u (.slice none 0 0)⟩ ++ [⟨.slice none 0 0, 9, 1, 0, []⟩] := by
    unfold lkRows
    simp only
    rw [evCells_sn _ _ _ _ h.len, roleRows_sn _ _ _ _ h.len, hu]
    simp
  refine lnext_of h hg (fun k hk => h.rowMine (List.mem_of_getElem? hr) k hk) 4 _ ?_ rfl (by simp [h.len]) ?_
  · rw [e]
    exact (h.rows.setRow (r' := ⟨.slice (some ⟨g, 0, none⟩) (l.events.length + 1) cap, 226, 5, l.events.length + 1, evCells l.events s.rv ++ evC u (.slice none 0 0)⟩) hr hown hg.size (fun k hk hn => hg.block k hk hn) (at_of hat)).add (World.ownsRow_nil _ _ _ _) (fun k hk => by simp [Value.ownBlock] at hk)
  · intro k hk
    unfold LMine at hk
    rw [e] at hk
    have hk : Owns [b] ((lkRows l s).set 0 ⟨.slice (some ⟨g, 0, none⟩) (l.events.length + 1) cap, 226, 5, l.events.length + 1, evCells l.events s.rv ++ evC u (.slice none 0 0)⟩) k := by
      rcases hk with hk | ⟨q, hq, hk⟩
      · exact .inl hk
      · rcases List.mem_append.1 hq with hq | hq
        · exact .inr ⟨q, hq, hk⟩
        · simp at hq; subst hq; simp [Value.ownBlock] at hk
    exact owns_set hr (at_of hat) hk
/-- The last rule is changed. -/
theorem LkAt.ruleMod (h : LkAt B b w l s) {g c m : Nat} (hv : s.vr = .slice (some ⟨g, 0, none⟩) (m + 1) c) (hl : l.rules.length = m + 1) (f : RR → RR) (j : Nat) (u : Value) (hj : j < 3) (hf : ∀ x, rrC (f x) = (rrC x).set j u) :
    LNext B b w l s (w.setCell ⟨g, m * 3 + j, none⟩ u) { l with rules := modLast f l.rules } s := by
  have hr : (lkRows l s)[1]? = some ⟨s.vr, 269, 3, l.rules.length, l.rules.flatMap rrC⟩ := rfl
  have hfm := flat_mod rrC 3 (fun _ => rfl) f j u hj l.rules m (fun x _ => hf x)
  rw [if_pos (by omega)] at hfm
  have e : lkRows { l with rules := modLast f l.rules } s = (lkRows l s).set 1 { v := s.vr, e := 269, m := 3, n := l.rules.length, xs := (l.rules.flatMap rrC).set (m * 3 + j) u } := by
    unfold lkRows modLast
    simp only
    rw [hl, Nat.add_sub_cancel, hfm, List.length_modify, hl]
    rfl
  have hgb : g ≠ b := (h.rowMine (List.mem_of_getElem? hr) g (by rw [hv]; rfl)).2
  refine ⟨⟨?_, ?_, h.len⟩, (Kp.refl _ _).setCell (.inl (h.rowMine (List.mem_of_getElem? hr) g (by rw [hv]; rfl)).1) _, ?_⟩
  · rw [heap_setCell_other _ _ _ _ (fun e => hgb e.symm)]; exact h.blk
  · rw [e]
    exact h.rows.setIn hr (by rw [hv, hl]) (m * 3 + j) u
  · intro k hk
    unfold LMine at hk
    rw [e] at hk
    refine owns_set hr ?_ hk
    exact fun g' hg' => .inl hg'
/-- A mark of the last event is changed. -/
theorem LkAt.eventMod (h : LkAt B b w l s) {g c m : Nat} (hv : s.ve = .slice (some ⟨g, 0, none⟩) (m + 1) c) (hl : l.events.length = m + 1) (f : Dsr.Ev → Dsr.Ev) (j : Nat) (u : Value) (hj : j < 5) (hf : ∀ x v, evC (f x) v = (evC x v).set j u) (hro : ∀ x, (f x).roles = x.roles) :
    LNext B b w l s (w.setCell ⟨g, m * 5 + j, none⟩ u) { l with events := modLast f l.events } s := by
  have hr : (lkRows l s)[0]? = some ⟨s.ve, 226, 5, l.events.length, evCells l.events s.rv⟩ := rfl
  have hfm := ev_mod f j u hj l.events s.rv m (fun x v _ _ => hf x v) h.len
  rw [if_pos (by omega)] at hfm
  have e : lkRows { l with events := modLast f l.events } s = (lkRows l s).set 0 { v := s.ve, e := 226, m := 5, n := l.events.length, xs := (evCells l.events s.rv).set (m * 5 + j) u } := by
    unfold lkRows modLast
    simp only
    rw [hl, Nat.add_sub_cancel, hfm, List.length_modify, hl, roleRows_mod f hro]
    rfl
  have hgb : g ≠ b := (h.rowMine (List.mem_of_getElem? hr) g (by rw [hv]; rfl)).2
  refine ⟨⟨?_, ?_, by simp [modLast, h.len]⟩, (Kp.refl _ _).setCell (.inl (h.rowMine (List.mem_of_getElem? hr) g (by rw [hv]; rfl)).1) _, ?_⟩
  · rw [heap_setCell_other _ _ _ _ (fun e => hgb e.symm)]; exact h.blk
  · rw [e]
    exact h.rows.setIn hr (by rw [hv, hl]) (m * 5 + j) u
  · intro k hk
    unfold LMine at hk
    rw [e] at hk
    refine owns_set hr ?_ hk
    exact fun g' hg' => .inl hg'
/-- A role more of the last event. -/
theorem LkAt.roleAdd (h : LkAt B b w l s) {ge ce m : Nat} (hv : s.ve = .slice (some ⟨ge, 0, none⟩) (m + 1) ce) (hl : l.events.length = m + 1) {x : Dsr.Ev} {v : Value} (hx : l.events[m]? = some x) (hvx : s.rv[m]? = some v) (t : List UInt8) {g cap : Nat}
    (hown : w'.ownsRow B 9 1 (.slice (some ⟨g, 0, none⟩) (x.roles.length + 1) cap) (x.roles.length + 1) (x.roles.map strV ++ [strV t])) (hg : w.grownBy w' v.ownBlock) (hat : v.ownBlock = some g ∨ g = w.heap.size) :
    LNext B b w l s (w'.setCell ⟨ge, m * 5 + 1, none⟩ (.slice (some ⟨g, 0, none⟩) (x.roles.length + 1) cap)) { l with events := modLast (fun x => { x with roles := x.roles ++ [t] }) l.events } { s with rv := s.rv.set m (.slice (some ⟨g, 0, none⟩) (x.roles.length + 1) cap) } := by
  have hr : (lkRows l s)[m + 3]? = some ⟨v, 9, 1, x.roles.length, x.roles.map strV⟩ := roleRows_at _ _ _ _ _ hx hvx
  have hr0 : (lkRows l s)[0]? = some ⟨s.ve, 226, 5, l.events.length, evCells l.events s.rv⟩ := rfl
  have h1 := h.rows.setRow (r' := ⟨.slice (some ⟨g, 0, none⟩) (x.roles.length + 1) cap, 9, 1, x.roles.length + 1, x.roles.map strV ++ [strV t]⟩) hr hown hg.size (fun k hk hn => hg.block k hk hn) (at_of hat)
  have hr1 : ((lkRows l s).set (m + 3) ⟨.slice (some ⟨g, 0, none⟩) (x.roles.length + 1) cap, 9, 1, x.roles.length + 1, x.roles.map strV ++ [strV t]⟩)[0]? = some ⟨s.ve, 226, 5, l.events.length, evCells l.events s.rv⟩ := by
    rw [List.getElem?_set_ne (by omega)]; exact hr0
  have h2 := h1.setIn hr1 (by rw [hv, hl]) (m * 5 + 1) (.slice (some ⟨g, 0, none⟩) (x.roles.length + 1) cap)
  have hev := ev_roles (.slice (some ⟨g, 0, none⟩) (x.roles.length + 1) cap) (fun x => { x with roles := x.roles ++ [t] }) (fun _ => ⟨rfl, rfl, rfl, rfl⟩) l.events s.rv m h.len (by omega)
  have hrs := roleRows_set (fun x => { x with roles := x.roles ++ [t] }) (.slice (some ⟨g, 0, none⟩) (x.roles.length + 1) cap) l.events s.rv m x hx h.len
  have e : lkRows { l with events := modLast (fun x => { x with roles := x.roles ++ [t] }) l.events } { s with rv := s.rv.set m (.slice (some ⟨g, 0, none⟩) (x.roles.length + 1) cap) } = ((lkRows l s).set (m + 3) ⟨.slice (some ⟨g, 0, none⟩) (x.roles.length + 1) cap, 9, 1, x.roles.length + 1, x.roles.map strV ++ [strV t]⟩).set 0 { v := s.ve, e := 226, m := 5, n := l.events.length, xs := (evCells l.events s.rv).set (m * 5 + 1) (.slice (some ⟨g, 0, none⟩) (x.roles.length + 1) cap) } := by
    unfold lkRows modLast
    simp only
    rw [hl, Nat.add_sub_cancel, hev, hrs, List.length_modify, hl]
    simp
  have hm0 := h.rowMine (List.mem_of_getElem? hr0)
  have hm3 := h.rowMine (List.mem_of_getElem? hr)
  have hgb : ge ≠ b := (hm0 ge (by rw [hv]; rfl)).2
  have hbw : w'.heap[b]? = w.heap[b]? := hg.block b h.lt (fun e => (hm3 b e.symm).2 rfl)
  refine ⟨⟨?_, ?_, by simp [modLast, h.len]⟩, ((Kp.refl _ _).grown hg (fun k hk => .inl (hm3 k hk).1)).setCell (.inl (hm0 ge (by rw [hv]; rfl)).1) _, ?_⟩
  · rw [heap_setCell_other _ _ _ _ (fun e => hgb e.symm)]; exact hbw.trans h.blk
  · rw [e]; exact h2
  · intro k hk
    unfold LMine at hk
    rw [e] at hk
    have h3 := owns_set (N := w.heap.size) hr1 (by intro g' hg'; exact .inl hg') hk
    rcases h3 with h3 | h3
    · exact owns_set hr (at_of hat) h3
    · exact .inr h3
end
end Go.Proofs.YtjmcokcdaddpcaaGreatDoor
set_option linter.unusedVariables false
set_option linter.unusedSimpArgs false
namespace Go.Proofs.YtjmcokcdaddpcaaGreatDoor
open Go.RowKit
abbrev ptrL (b : Nat) : Value := .pointer (some ⟨b, 0, none⟩)
theorem Tryz.infoRUse : (Tryz.prog.info? 271).map (fun i => (i.zero, i.size, i.bytes)) = some (some (.agg #[.string ⟨#[]⟩, .int .i64 0, .bool false, .int .i64 0, .int .i64 0, .int .i64 0]), 6, 56) := by kernel_rfl
theorem Tryz.infoREv : (Tryz.prog.info? 226).map (fun i => (i.zero, i.size, i.bytes)) = some (some (.agg #[.string ⟨#[]⟩, .slice none 0 0, .bool false, .bool false, .bool false]), 5, 48) := by kernel_rfl
theorem Tryz.infoRRl : (Tryz.prog.info? 269).map (fun i => (i.zero, i.size, i.bytes)) = some (some (.agg #[.int .i64 0, .string ⟨#[]⟩, .string ⟨#[]⟩]), 3, 40) := by kernel_rfl
theorem Tryz.infoStr : (Tryz.prog.info? 9).map (fun i => (i.zero, i.size, i.bytes)) = some (some (.string ⟨#[]⟩), 1, 16) := by kernel_rfl
theorem one_ru (u : RU) : ∀ x ∈ ruC u, x.oneCell' = true := by intro x hx; simp [ruC, tkC] at hx; rcases hx with rfl | rfl | rfl | rfl | rfl | rfl <;> rfl
theorem one_rr (u : RR) : ∀ x ∈ rrC u, x.oneCell' = true := by intro x hx; simp [rrC] at hx; rcases hx with rfl | rfl | rfl <;> rfl
theorem risName_at (k : Dsr.Tok) (b : Bool) (hb : isName k = b) (w : World) : Calls Tryz.prog 220 #[tkV k] w fun e w' => e = .returned (.bool b) ∧ Below w.heap.size w w' := by
  subst hb
  exact risName_any k w
theorem LkAt.cells {B b : Nat} {w : World} {l : LK} {s : LS} (h : LkAt B b w l s) :
    w.cell? ⟨b, 0, none⟩ = some (.int .i64 l.want) ∧ w.cell? ⟨b, 1, none⟩ = some (.int .i64 l.lines) ∧ w.cell? ⟨b, 2, none⟩ = some (.int .i64 l.roles) ∧ w.cell? ⟨b, 3, none⟩ = some (.int .i64 l.e) ∧ w.cell? ⟨b, 4, none⟩ = some s.ve ∧
    w.cell? ⟨b, 5, none⟩ = some s.vr ∧ w.cell? ⟨b, 6, none⟩ = some s.vu ∧ w.cell? ⟨b, 7, none⟩ = some (.int .i64 l.event) ∧ w.cell? ⟨b, 8, none⟩ = some (.int .i64 l.rule) ∧ (∀ o, w.frozen? ⟨b, o, none⟩ = false) := by
  have hb := h.blk
  refine ⟨?_, ?_, ?_, ?_, ?_, ?_, ?_, ?_, ?_, ?_⟩
  all_goals first
    | (intro o; simp [World.frozen?, hb])
    | simp [World.cell?, hb]
theorem grownD {w w' : World} {row : Option Nat} (h : w.drew.grownBy w' row) : w.grownBy w' row := ⟨h.os, h.tape, h.output, h.size, h.block⟩
theorem below_alloc1 {w : World} (o : Obj) : Below w.heap.size w (w.alloc o) := (Below.refl _ _).alloc (Nat.le_refl _) _
theorem after_use {B b : Nat} {wc w1 : World} {l : LK} {s : LS} {u : RU} {o : Obj} {g cap : Nat} (HR : LkAt B b wc l s)
    (hown : w1.ownsRow B 271 6 (.slice (some ⟨g, 0, none⟩) (l.uses.length + 1) cap) (l.uses.length + 1) (l.uses.flatMap ruC ++ ruC u)) (hgrow : (wc.alloc o).grownBy w1 s.vu.ownBlock) (hat : s.vu.ownBlock = some g ∨ g = (wc.alloc o).heap.size) :
    Hid (LNext B b wc l s (w1.setCell ⟨b, 6, none⟩ (.slice (some ⟨g, 0, none⟩) (l.uses.length + 1) cap)) { l with uses := l.uses ++ [u] } { s with vu := .slice (some ⟨g, 0, none⟩) (l.uses.length + 1) cap }) ∧ w1.cell? ⟨b, 6, none⟩ = some s.vu ∧ w1.frozen? ⟨b, 6, none⟩ = false := by
  have HA := (LNext.refl HR).aside (below_alloc1 o)
  have hc := HA.lk.cells
  have hne : some b ≠ s.vu.ownBlock := fun e => (HA.lk.rowMine (r := ⟨s.vu, 271, 6, l.uses.length, l.uses.flatMap ruC⟩) (by simp [lkRows]) b e.symm).2 rfl
  refine ⟨HA.trans (HA.lk.useAdd u hown hgrow hat), ?_, ?_⟩
  · rw [hgrow.cell_far ⟨b, 6, none⟩ HA.lk.lt hne]; exact hc.2.2.2.2.2.2.1
  · rw [hgrow.frozen_far ⟨b, 6, none⟩ HA.lk.lt hne]; exact hc.2.2.2.2.2.2.2.2.2 6
set_option maxRecDepth 100000 in
set_option maxHeartbeats 6400000 in
theorem rnamed_any {B b : Nat} {w : World} {l : LK} {s : LS} (k : Dsr.Tok) (room : Bool) (what want : Nat) (h : LkAt B b w l s) (hu : l.uses.length ≤ 1000) (hk : k.text.length ≤ 1000) :
    Calls Tryz.prog 163 #[ptrL b, tkV k, .bool room, .int .i64 what, .int .i64 want] w fun e w' => e = .returned (.tuple #[]) ∧ ∃ s', LNext B b w l s w' (namedP l k room what want) s' ∧ s'.ve = s.ve ∧ s'.vr = s.vr ∧ s'.rv = s.rv := by
  have hlt := h.lt
  have hkI : (k.text.length : Int) ≤ 1000 := by omega
  have H : Hid (LkAt B b w l s) := h
  have hB : B ≤ w.heap.size := by have := h.low; omega
  clear h
  have A0 : LNext B b w l s (w.alloc (.cells #[strV k.text, .int .i64 k.at_, .bool (isW k), .int .i64 (sgn k)] 223)) l s := (LNext.refl H.out).aside ((Below.refl _ _).alloc (Nat.le_refl _) _)
  have HA : Hid (LNext B b w l s (w.alloc (.cells #[strV k.text, .int .i64 k.at_, .bool (isW k), .int .i64 (sgn k)] 223)) l s) := A0
  rcases hn : isName k with _ | _
  · have HE : Hid (namedP l k room what want = { l with e := 2 }) := by show _ = _; unfold namedP; rw [if_pos hn]
    go_enter Tryz.func163, Tryz.ntmps163
    go_wp2_with fail
    refine (risName_at k false hn _).mono ?_
    rintro e w1 ⟨rfl, b1⟩
    have H1 : Hid (LNext B b w l s w1 l s) := HA.out.aside b1
    obtain ⟨c0, c1, c2, c3, c4, c5, c6, c7, c8, fz⟩ := H1.out.lk.cells
    clear b1
    go_wp2_with fail
    go_end0
    refine ⟨rfl, s, ?_, rfl, rfl, rfl⟩
    rw [HE.out]
    exact H1.out.put 3 _ rfl rfl rfl rfl
  · rcases hb : badSize k room with _ | _
    · have HE : Hid (namedP l k room what want = { l with uses := l.uses ++ [⟨k, what, l.lines⟩], want := want }) := by show _ = _; unfold namedP; rw [if_neg (by rw [hn]; decide), if_neg (by rw [hb]; decide)]
      have hroom : room = true := by unfold badSize at hb; cases room <;> simp_all
      have hsz : (k.text.length : Int) ≤ 8 := by unfold badSize at hb; cases room <;> simp_all; omega
      subst hroom
      go_enter Tryz.func163, Tryz.ntmps163
      go_wp2_with fail
      refine (risName_at k true hn _).mono ?_
      rintro e w1 ⟨rfl, b1⟩
      have H1 : Hid (LNext B b w l s w1 l s) := HA.out.aside b1
      obtain ⟨c0, c1, c2, c3, c4, c5, c6, c7, c8, fz⟩ := H1.out.lk.cells
      have hw1 : w.heap.size < w1.heap.size := by have := b1.size; simp at this; omega
      have q1 : w1.heap[w.heap.size]? = some (.cells #[strV k.text, .int .i64 k.at_, .bool (isW k), .int .i64 (sgn k)] 223 (0, 0)) := (b1.block _ (by simp)).trans (heap_alloc_new _ _)
      have t0 : w1.cell? ⟨w.heap.size, 0, none⟩ = some (strV k.text) := by simp [World.cell?, q1]
      have t1 : w1.cell? ⟨w.heap.size, 1, none⟩ = some (.int .i64 k.at_) := by simp [World.cell?, q1]
      have t2 : w1.cell? ⟨w.heap.size, 2, none⟩ = some (.bool (isW k)) := by simp [World.cell?, q1]
      have t3 : w1.cell? ⟨w.heap.size, 3, none⟩ = some (.int .i64 (sgn k)) := by simp [World.cell?, q1]
      have HU : Hid (w1.ownsRow B 271 6 s.vu l.uses.length (l.uses.flatMap ruC)) := H1.out.lk.own2
      obtain ⟨i0, hi, hz0, hz1, hz2⟩ := info_parts Tryz.infoRUse
      have hw1' : B ≤ w1.heap.size := by omega
      have hbw1 := H1.out.lk.lt
      clear b1 q1 A0 c0 c2 c3 c4 c5 c7 c8 hsz hkI hk
      have hdec : decide ((8 : Int) < (k.text.length : Int)) = false := by unfold badSize at hb; simp at hb ⊢; omega
      go_wp2_with fail
      go_cut [] from 11 (fun wd => ∃ s', LNext B b w1 l s wd { l with uses := l.uses ++ [⟨k, what, l.lines⟩] } s' ∧ s'.ve = s.ve ∧ s'.vr = s.vr ∧ s'.rv = s.rv)
      case first =>
        go_region_law (refine step_append_lies _ rfl (.tmp 18) (.tmp 26) 217 rfl B 271 i0 _ 6 56 Tryz.underlying217 hi hz0 hz1 hz2 rfl (by decide) s.vu l.uses.length _ (by simp [Act.eval, Act.put]) (by first | exact HU.out.alloc _ | exact (HU.out.alloc _).drew) ⟨w1.heap.size, 0, none⟩ 1 1 (ruC ⟨k, what, l.lines⟩) (by simp [Act.eval, Act.put]) rfl (by exact news_l rfl) (one_ru _) (by decide) (by unfold maxLen; omega) (by omega) (by simp; omega) _ rfl ?_; intro g cap w2 hown hgrow hat hlt1; obtain ⟨HM, e7, f7⟩ := after_use H1.out.lk hown (grownD hgrow) hat)
        all_goals
          go_wp2_with fail
          go_meet
          case rel => exact ⟨_, HM.out, rfl, rfl, rfl⟩
      case rest =>
        obtain ⟨s', N2, q1, q2, q3⟩ := hcut
        obtain ⟨c0, c1, c2, c3, c4, c5, c6, c7, c8, fz⟩ := N2.lk.cells
        have HN : Hid (LNext B b w1 l s wc { l with uses := l.uses ++ [⟨k, what, l.lines⟩] } s' ∧ s'.ve = s.ve ∧ s'.vr = s.vr ∧ s'.rv = s.rv) := ⟨N2, q1, q2, q3⟩
        clear N2 q1 q2 q3
        go_wp2_with fail
        go_end0
        refine ⟨rfl, s', ?_, HN.out.2⟩
        rw [HE.out]
        exact (H1.out.trans HN.out.1).put 0 _ rfl rfl rfl rfl
    · have HE : Hid (namedP l k room what want = { l with e := 3 }) := by show _ = _; unfold namedP; rw [if_neg (by rw [hn]; decide), if_pos hb]
      go_enter Tryz.func163, Tryz.ntmps163
      go_wp2_with fail
      refine (risName_at k true hn _).mono ?_
      rintro e w1 ⟨rfl, b1⟩
      have H1 : Hid (LNext B b w l s w1 l s) := HA.out.aside b1
      obtain ⟨c0, c1, c2, c3, c4, c5, c6, c7, c8, fz⟩ := H1.out.lk.cells
      have q1 : w1.heap[w.heap.size]? = some (.cells #[strV k.text, .int .i64 k.at_, .bool (isW k), .int .i64 (sgn k)] 223 (0, 0)) := (b1.block _ (by simp)).trans (heap_alloc_new _ _)
      have t0 : w1.cell? ⟨w.heap.size, 0, none⟩ = some (strV k.text) := by simp [World.cell?, q1]
      clear b1 q1
      rcases room with _ | _
      · go_wp2_with fail
        go_end0
        refine ⟨rfl, s, ?_, rfl, rfl, rfl⟩
        rw [HE.out]
        exact H1.out.put 3 _ rfl rfl rfl rfl
      · have hsz : (8 : Int) < (k.text.length : Int) := by unfold badSize at hb; simp at hb; omega
        go_wp2_with fail
        go_end0
        refine ⟨rfl, s, ?_, rfl, rfl, rfl⟩
        rw [HE.out]
        exact H1.out.put 3 _ rfl rfl rfl rfl
end Go.Proofs.YtjmcokcdaddpcaaGreatDoor
