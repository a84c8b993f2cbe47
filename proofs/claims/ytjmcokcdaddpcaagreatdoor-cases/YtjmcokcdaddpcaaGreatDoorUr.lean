import Derived.Test.YtjmcokcdaddpcaaGreatDoorUl
import Derived.Test.YtjmcokcdaddpcaaGreatDoorReB
import Derived.Test.YtjmcokcdaddpcaaGreatDoorUd
import Derived.Test.YtjmcokcdaddpcaaGreatDoorUa
import Derived.Test.YtjmcokcdaddpcaaGreatDoorUn
set_option linter.unusedVariables false
set_option linter.unusedSimpArgs false
namespace Go.Proofs.YtjmcokcdaddpcaaGreatDoor
open Go.RowKit
theorem lines_sim {n : Nat} : ∀ (f : Nat) {l : LK} {q : Dsr.QR} {ps : List Pr}, Bd l q.1 ps → TGs q → 32 ≤ f + (l.events.length + l.rules.length) →
    Err (Dsr.endT n) (Dsr.linesL (Dsr.endT n) f q) (runP l (stream (Dsr.endT n) q)) ∨ ∃ l' ps', Bd l' (Dsr.linesL (Dsr.endT n) f q).1 ps' ∧ runP l (stream (Dsr.endT n) q) = (l', none)
  | 0, l, q, ps, hb, hT, hf => by
    have h1 := hb.e10
    have h2 := hb.r20
    omega
  | f + 1, l, q, ps, hb, hT, hf => by
    have hE : (Dsr.endT n).kind = 10 := rfl
    unfold Dsr.linesL
    by_cases h10 : q.1.now.kind = 10
    · right
      rw [if_pos h10]
      exact ⟨l, ps, hb, run_stop (hT.1.nil.2 h10) hb.w0⟩
    rw [if_neg h10]
    by_cases h2 : q.1.now.kind = 2
    · rw [if_pos h2]
      rcases event_line (n := n) hb hT h2 with h | ⟨l', ps', hb', hT', hr, hm⟩
      · left
        obtain ⟨c, a, hc, hbd, h⟩ := h
        rw [hbd.lines hE f]
        exact ⟨c, a, hc, hbd, h⟩
      · rw [hr]
        exact lines_sim f hb' hT' (by omega)
    rw [if_neg h2]
    by_cases h1 : q.1.now.kind = 1
    · rw [if_pos h1]
      rcases rule_line (n := n) hb hT h1 with h | ⟨l', ps', hb', hT', hr, hm⟩
      · left
        obtain ⟨c, a, hc, hbd, h⟩ := h
        rw [hbd.lines hE f]
        exact ⟨c, a, hc, hbd, h⟩
      · rw [hr]
        exact lines_sim f hb' hT' (by omega)
    rw [if_neg h1]
    left
    have hbd : Bad (Dsr.endT n) 2 q.1.now.at_ (Dsr.refuseL (Dsr.endT n) q 2) := refuse_bad hb.rf 2
    rw [hbd.lines hE f]
    refine err_of (c := 2) (by decide) (fun h => h10 (hT.1.nil.1 h.1)) ?_ hbd
    unfold nextP beginP
    rw [if_pos hb.w0, if_neg (by rw [hT.1.ev]; simp [h2]), named_not hT.1 h1]
theorem bd0 (rd : Dsr.Rd) (h1 : rd.events = []) (h2 : rd.rules = []) (h3 : rd.uses = []) (h4 : rd.fErr = 0) : Bd lk0 rd [] :=
  ⟨h1.symm, h2, by simp [lk0], rfl, h3, ⟨by simp, by simp⟩, by intro p hp; simp at hp, ⟨rfl, by simp [lk0], by simp [lk0]⟩, by simp [lk0], rfl, rfl, rfl, h4, rfl, by simp [lk0], by simp [lk0]⟩
/-- The look and the reader come to the same. -/
theorem read_sim {t : List UInt8} {ts : List Dsr.Tok} (hL : Dsr.Lst t 0 ts) :
    (∃ l a, runP lk0 (ts ++ [Dsr.endT t.length]) = (l, some a) ∧ l.e = (Dsr.readR t).fErr ∧ (Dsr.readR t).fErr ≠ 0 ∧ (Dsr.readR t).fAt = a) ∨
    (∃ l ps, runP lk0 (ts ++ [Dsr.endT t.length]) = (l, none) ∧ Bd l (Dsr.readR t) ps) := by
  rw [Dsr.readR_eq hL]
  unfold Dsr.readL
  have hT : TGs (Dsr.newL (Dsr.endT t.length) ts) := by
    have h := lst_tg hL
    unfold Dsr.newL TGs
    rcases ts with _ | ⟨k, S⟩
    · exact ⟨end_tg _, by simp⟩
    · exact ⟨h k (by simp), fun x hx => h x (by simp at hx ⊢; exact .inr hx)⟩
  have e : runP lk0 (ts ++ [Dsr.endT t.length]) = runP lk0 (stream (Dsr.endT t.length) (Dsr.newL (Dsr.endT t.length) ts)) := by
    have := run_tail (l := lk0) (n := t.length) (q := ((⟨Dsr.endT t.length, [], [], [], 0, 0⟩ : Dsr.Rd), ts)) (by decide)
    exact this
  rw [e]
  rcases lines_sim (n := t.length) 32 (bd0 (Dsr.newL (Dsr.endT t.length) ts).1 rfl rfl rfl rfl) hT (by simp [lk0]) with ⟨c, a, hc, hb, l', h, he⟩ | ⟨l', ps', hb, h⟩
  · left
    exact ⟨l', a, h, by rw [he, hb.1], by rw [hb.1]; exact hc, hb.2.1⟩
  · right
    exact ⟨l', ps', h, hb⟩
end Go.Proofs.YtjmcokcdaddpcaaGreatDoor
set_option linter.unusedVariables false
set_option linter.unusedSimpArgs false
namespace Go.Proofs.YtjmcokcdaddpcaaGreatDoor
open Go.RowKit
theorem any_congr' {α : Type} {l : List α} {f g : α → Bool} (h : ∀ x ∈ l, f x = g x) : l.any f = l.any g := by
  rw [Bool.eq_iff_iff, List.any_eq_true, List.any_eq_true]
  constructor
  · rintro ⟨x, hx, h1⟩; exact ⟨x, hx, by rw [← h x hx]; exact h1⟩
  · rintro ⟨x, hx, h1⟩; exact ⟨x, hx, by rw [h x hx]; exact h1⟩
theorem findI_neg (x : List UInt8) : ∀ (es : List Dsr.Ev) (k : Nat), findI es x k < 0 ↔ x ∉ es.map (·.name)
  | [], k => by simp [findI]
  | e :: es, k => by
    unfold findI
    by_cases h : e.name = x
    · rw [if_pos h]; simp [h]
    · rw [if_neg h, findI_neg x es (k + 1)]
      simp only [List.map_cons, List.mem_cons, not_or]
      exact ⟨fun h1 => ⟨fun e => h e.symm, h1⟩, fun h1 => h1.2⟩
theorem bad_eq {l : LK} {rd : Dsr.Rd} {ps : List Pr} (hb : Bd l rd ps) {pre : List Pr} {p : Pr} (hp : p ∈ ps) (hpre : ∀ x ∈ pre, x ∈ ps) : badU l.events (pre.map (·.1)) p.1 = Dsr.isWrong p.2 (pre.map (·.2)) (ps.map (·.2)) := by
  obtain ⟨h1, h2, h3, h4⟩ := hb.pok.eq p hp
  have hcl' : ∀ x ∈ pre, p.2.as_ < 2 → (clash p.1 x.1 = true ↔ (x.2.as_ = p.2.as_ ∧ x.2.name = p.2.name ∧ (p.2.as_ = 0 ∨ x.1.line = p.1.line))) := by
    intro x hx hc
    obtain ⟨g1, g2, g3, g4⟩ := hb.pok.eq x (hpre x hx)
    unfold clash
    simp only [Bool.and_eq_true, Bool.or_eq_true, beq_iff_eq]
    rw [h1, g1, g2, h2]
    constructor
    · intro h; exact ⟨by omega, h.2.1, by omega⟩
    · intro h; exact ⟨by omega, h.2.1, by omega⟩
  have hc : p.2.as_ = 0 ∨ p.2.as_ = 1 ∨ p.2.as_ = 2 := by omega
  unfold badU Dsr.isWrong
  rw [h1]
  rcases hc with hc | hc | hc
  · rw [if_pos hc, hc]
    simp only [List.any_map]
    show (((((0 + 1 : Nat) : Int) == 3) && _) || (decide (((0 + 1 : Nat) : Int) < 3) && _)) = _
    rw [show ((((0 + 1 : Nat) : Int) == 3)) = false from rfl, show decide (((0 + 1 : Nat) : Int) < 3) = true from rfl, Bool.false_and, Bool.false_or, Bool.true_and]
    apply any_congr'
    intro x hx
    rw [Bool.eq_iff_iff]
    show clash p.1 x.1 = true ↔ Dsr.isDef p.2.name x.2 = true
    rw [hcl' x hx (by omega)]
    unfold Dsr.isDef
    simp only [Bool.and_eq_true, beq_iff_eq, decide_eq_true_eq]
    constructor
    · intro h; exact ⟨by omega, h.2.1⟩
    · intro h; exact ⟨by omega, h.2, .inl hc⟩
  · rw [if_neg (by omega), if_pos hc, hc]
    simp only [List.any_map]
    show (((((1 + 1 : Nat) : Int) == 3) && _) || (decide (((1 + 1 : Nat) : Int) < 3) && _)) = _
    rw [show ((((1 + 1 : Nat) : Int) == 3)) = false from rfl, show decide (((1 + 1 : Nat) : Int) < 3) = true from rfl, Bool.false_and, Bool.false_or, Bool.true_and]
    apply any_congr'
    intro x hx
    rw [Bool.eq_iff_iff]
    show clash p.1 x.1 = true ↔ Dsr.isRole p.2.event p.2.name x.2 = true
    rw [hcl' x hx (by omega)]
    unfold Dsr.isRole
    simp only [Bool.and_eq_true, beq_iff_eq, decide_eq_true_eq]
    constructor
    · intro h
      have h1 : x.2.as_ = 1 := by omega
      exact ⟨⟨h1, (hb.pok.ro x (hpre x hx) p hp h1 hc).1 (by omega)⟩, h.2.1⟩
    · intro h
      exact ⟨by omega, h.2, .inr ((hb.pok.ro x (hpre x hx) p hp h.1.1 hc).2 h.1.2)⟩
  · rw [if_neg (by omega), if_neg (by omega), hc]
    show (((((2 + 1 : Nat) : Int) == 3) && _) || (decide (((2 + 1 : Nat) : Int) < 3) && _)) = _
    rw [show ((((2 + 1 : Nat) : Int) == 3)) = true from rfl, show decide (((2 + 1 : Nat) : Int) < 3) = false from rfl, Bool.true_and, Bool.false_and, Bool.or_false, Bool.eq_iff_iff, decide_eq_true_eq, findI_neg, hb.el.nm, ← h2]
    rw [Bool.not_eq_true', ← Bool.not_eq_true, List.any_eq_true]
    constructor
    · rintro h ⟨v, hv, hd⟩
      obtain ⟨x, hx, rfl⟩ := List.mem_map.1 hv
      unfold Dsr.isDef at hd
      simp only [Bool.and_eq_true, beq_iff_eq, decide_eq_true_eq] at hd
      exact h (List.mem_map.2 ⟨x, List.mem_filter.2 ⟨hx, by simp [hd.1]⟩, hd.2⟩)
    · intro h hm
      obtain ⟨x, hx, hn⟩ := List.mem_map.1 hm
      obtain ⟨hx1, hx2⟩ := List.mem_filter.1 hx
      exact h ⟨x.2, List.mem_map.2 ⟨x, hx1, rfl⟩, by unfold Dsr.isDef; simp at hx2 ⊢; exact ⟨hx2, hn⟩⟩
theorem wrong_from {l : LK} {rd : Dsr.Rd} {ps : List Pr} (hb : Bd l rd ps) : ∀ (post pre : List Pr), ps = pre ++ post → wrongR l.events (pre.map (·.1)) (post.map (·.1)) = Dsr.wrongFrom (ps.map (·.2)) post.length pre.length
  | [], pre, h => rfl
  | p :: post, pre, h => by
    have hp : p ∈ ps := by rw [h]; simp
    have hget : (ps.map (·.2))[pre.length]? = some p.2 := by rw [h]; simp
    have htake : (ps.map (·.2)).take pre.length = pre.map (·.2) := by rw [h]; simp
    have ih := wrong_from hb post (pre ++ [p]) (by rw [h]; simp)
    rw [List.map_append, List.length_append] at ih
    rw [List.length_cons, Dsr.wrongFrom, hget]
    show (if badU l.events (pre.map (·.1)) p.1 = true then some p.1.tk.at_ else wrongR l.events (pre.map (·.1) ++ [p.1]) (post.map (·.1))) = (if Dsr.isWrong p.2 ((ps.map (·.2)).take pre.length) (ps.map (·.2)) = true then some p.2.at_ else Dsr.wrongFrom (ps.map (·.2)) post.length (pre.length + 1))
    rw [htake, bad_eq hb hp (fun x hx => by rw [h]; simp [hx]), (hb.pok.eq p hp).2.2.1]
    split
    · rfl
    · exact ih
theorem wrong_eq {l : LK} {rd : Dsr.Rd} {ps : List Pr} (hb : Bd l rd ps) : wrongR l.events [] l.uses = Dsr.wrongName rd.uses := by
  have := wrong_from hb ps [] rfl
  unfold Dsr.wrongName
  rw [hb.lu, hb.us, List.length_map]
  exact this
theorem from_none {us : List Dsr.Us} : ∀ (f k : Nat), Dsr.wrongFrom us f k = none → ∀ j u, k ≤ j → j < k + f → us[j]? = some u → Dsr.isWrong u (us.take j) us = false
  | 0, k, h, j, u, h1, h2, hu => by omega
  | f + 1, k, h, j, u, h1, h2, hu => by
    rw [Dsr.wrongFrom] at h
    by_cases hj : j = k
    · subst hj
      rw [hu] at h
      simp only at h
      rcases hw : Dsr.isWrong u (us.take j) us with _ | _
      · rfl
      · rw [if_pos hw] at h; cases h
    · rcases hk : us[k]? with _ | v
      · rw [List.getElem?_eq_none_iff] at hk
        have := (List.getElem?_eq_some_iff.1 hu).1
        omega
      · rw [hk] at h
        simp only at h
        split at h
        · cases h
        · exact from_none f (k + 1) h j u (by omega) (by omega) hu
/-- Nothing is named twice, and what is meant is there. -/
theorem names_ok {l : LK} {rd : Dsr.Rd} {ps : List Pr} (hb : Bd l rd ps) (hw : Dsr.wrongName rd.uses = none) :
    (l.events.map (·.name)).Nodup ∧ (∀ e ∈ l.events, e.roles.Nodup) ∧ ∀ r ∈ l.rules, r.left ∈ l.events.map (·.name) ∧ r.right ∈ l.events.map (·.name) := by
  have hnone : ∀ j u, rd.uses[j]? = some u → Dsr.isWrong u (rd.uses.take j) rd.uses = false := fun j u hu => from_none _ 0 hw j u (Nat.zero_le _) (by have := (List.getElem?_eq_some_iff.1 hu).1; omega) hu
  rw [hb.us] at hnone
  have hpw : ps.Pairwise (fun a b => ¬ (b.2.as_ = 0 ∧ a.2.as_ = 0 ∧ a.2.name = b.2.name) ∧ ¬ (b.2.as_ = 1 ∧ a.2.as_ = 1 ∧ a.2.event = b.2.event ∧ a.2.name = b.2.name)) := by
    rw [List.pairwise_iff_getElem]
    intro i j hi hj hij
    have h := hnone j ps[j].2 (by rw [List.getElem?_map, List.getElem?_eq_getElem hj]; rfl)
    have hm : ps[i].2 ∈ (ps.map (·.2)).take j := by
      apply List.mem_of_getElem? (i := i)
      rw [List.getElem?_take_of_lt hij, List.getElem?_map, List.getElem?_eq_getElem hi]; rfl
    unfold Dsr.isWrong at h
    refine ⟨?_, ?_⟩
    · rintro ⟨h1, h2, h3⟩
      rw [if_pos h1, List.any_eq_false] at h
      exact h _ hm (by unfold Dsr.isDef; simp [h2, h3])
    · rintro ⟨h1, h2, h3, h4⟩
      rw [if_neg (by omega), if_pos h1, List.any_eq_false] at h
      exact h _ hm (by unfold Dsr.isRole; simp [h2, h3, h4])
  refine ⟨?_, ?_, ?_⟩
  · rw [hb.el.nm]
    unfold List.Nodup
    rw [List.pairwise_map]
    have := hpw.filter (fun p => p.2.as_ == 0)
    refine List.Pairwise.imp_of_mem ?_ this
    intro a b ha hb' h e
    have h1 := (List.mem_filter.1 ha).2
    have h2 := (List.mem_filter.1 hb').2
    simp at h1 h2
    exact h.1 ⟨h2, h1, e⟩
  · intro e he
    obtain ⟨j, hj, hje⟩ := List.mem_iff_getElem.1 he
    rw [hb.el.ro j e (by rw [List.getElem?_eq_getElem hj, hje])]
    unfold List.Nodup
    rw [List.pairwise_map]
    have := hpw.filter (fun p => p.2.as_ == 1 && p.2.event == j)
    refine List.Pairwise.imp_of_mem ?_ this
    intro a b ha hb' h e
    have h1 := (List.mem_filter.1 ha).2
    have h2 := (List.mem_filter.1 hb').2
    simp at h1 h2
    exact h.2 ⟨h2.1, h1.1, by omega, e⟩
  · have key : ∀ p ∈ ps, p.2.as_ = 2 → p.2.name ∈ l.events.map (·.name) := by
      intro p hp h2
      obtain ⟨j, hj, hje⟩ := List.mem_iff_getElem.1 hp
      have h := hnone j p.2 (by rw [List.getElem?_map, List.getElem?_eq_getElem hj, hje]; rfl)
      unfold Dsr.isWrong at h
      rw [if_neg (by omega), if_neg (by omega)] at h
      have h : (ps.map (·.2)).any (Dsr.isDef p.2.name) = true := by simpa using h
      obtain ⟨v, hv, hd⟩ := List.any_eq_true.1 h
      obtain ⟨x, hx, rfl⟩ := List.mem_map.1 hv
      unfold Dsr.isDef at hd
      simp only [Bool.and_eq_true, beq_iff_eq, decide_eq_true_eq] at hd
      rw [hb.el.nm]
      exact List.mem_map.2 ⟨x, List.mem_filter.2 ⟨hx, by simp [hd.1]⟩, hd.2⟩
    intro r hr
    obtain ⟨⟨p, hp, h1, h2⟩, ⟨p', hp', h3, h4⟩⟩ := hb.rp r hr
    exact ⟨by rw [← h2]; exact key p hp h1, by rw [← h4]; exact key p' hp' h3⟩
end Go.Proofs.YtjmcokcdaddpcaaGreatDoor
set_option linter.unusedVariables false
set_option linter.unusedSimpArgs false
namespace Go.Proofs.YtjmcokcdaddpcaaGreatDoor
open Go.RowKit
/-- What Print hands back. -/
def PrintP (t out : List UInt8) (fe fa : Nat) : Prop :=
  (errOf t = some (fe, fa) ∧ fe ≠ 0 ∧ out = []) ∨ (errOf t = none ∧ ∃ es rs, OrdG (Dsr.readR t) es rs ∧ ((400 < (Dsr.text es rs).length ∧ fe = 1 ∧ fa = 0 ∧ out = []) ∨ ((Dsr.text es rs).length ≤ 400 ∧ fe = 0 ∧ fa = 0 ∧ out = Dsr.text es rs)))
theorem read_any {w : World} {t : ByteArray} (hS : SignsIn w) :
    Calls Tryz.prog 39 #[.string t] w fun x w' => ∃ gv fe fa, x = .returned (.tuple #[gv, .agg #[.int .i64 (fe : Nat), .int .i64 (fa : Nat)]]) ∧ (∃ a n c d m e, gv = .agg #[.slice a n c, .slice d m e]) ∧ Below w.heap.size w w' ∧ ReadP w.heap.size t.data.toList w' gv fe fa := by
  rcases Nat.lt_or_ge 400 t.size with h | h
  · exact read_long h
  · exact read_short h hS
theorem below_drewN {B : Nat} {a w : World} (h : Below B a w) (n : Nat) : Below B a (w.drewN n) := ⟨h.os, h.tape, h.output, h.size, h.block⟩
set_option maxRecDepth 100000 in
set_option maxHeartbeats 3200000 in
theorem print_any {w : World} {t : ByteArray} (hS : SignsIn w) :
    Calls Tryz.prog 15 #[.string t] w fun x w' => ∃ out fe fa, x = .returned (.tuple #[strV out, .int .i64 (fe : Nat), .int .i64 (fa : Nat)]) ∧ Below w.heap.size w w' ∧ PrintP t.data.toList out fe fa := by
  have HS : Hid (SignsIn w) := hS
  clear hS
  go_enter Tryz.func15, Tryz.ntmps15
  go_wp2_with fail
  refine (read_any HS.out).mono ?_
  rintro x w1 ⟨gv, fe, fa, rfl, ⟨g1, g2, g3, g4, g5, g6, rfl⟩, b1, hR⟩
  generalize hga : (Value.slice g1 g2 g3) = ga at *
  generalize hgb : (Value.slice g4 g5 g6) = gb at *
  have H1 : Hid (Below w.heap.size w w1 ∧ ReadP w.heap.size t.data.toList w1 (.agg #[ga, gb]) fe fa ∧ SignsIn w1) := ⟨b1, hR, HS.out.below b1⟩
  clear b1
  by_cases h0 : fe = 0
  · subst h0
    have hOK : ∃ es rs, OrdG (Dsr.readR t.data.toList) es rs ∧ errOf t.data.toList = none ∧ (Dsr.text es rs).length ≤ 400 ∧ fa = 0 ∧ ∃ B ve vr rv, w.heap.size ≤ B ∧ (.agg #[ga, gb] : Value) = .agg #[ve, vr] ∧ GrAt B w1 es rs ve vr rv ∧ Small es rs := by
      rcases hR with ⟨_, h⟩ | ⟨hn, es, rs, ho, ⟨_, h, _⟩ | ⟨hl, _, hfa, hg⟩⟩
      · exact absurd rfl h
      · cases h
      · exact ⟨es, rs, ho, hn, hl, hfa, hg⟩
    obtain ⟨es, rs, ho, hn, hl, rfl, B, ve, vr, rv, hNB, hgv, hG, hSm⟩ := hOK
    have hgp : ga = ve ∧ gb = vr := by injection hgv with h; have h := congrArg Array.toList h; injection h with h1 h; injection h with h2 h; exact ⟨h1, h2⟩
    obtain ⟨ega, egb⟩ := hgp
    subst ega egb
    obtain ⟨ae, ce, hve⟩ := owned_shape hG.evs
    obtain ⟨ar, cr, hvr⟩ := owned_shape hG.rls
    subst hve hvr
    clear hga hgb
    have H2 : Hid (OrdG (Dsr.readR t.data.toList) es rs ∧ errOf t.data.toList = none ∧ (Dsr.text es rs).length ≤ 400 ∧ GrAt B w1 es rs (.slice ae es.length ce) (.slice ar rs.length cr) rv ∧ Small es rs) := ⟨ho, hn, hl, hG, hSm⟩
    clear ho hn hl hG hSm hgv hR
    go_wp2_with fail
    refine (text_any (H2.out.2.2.2.1.below (Nat.le_refl _) (((Below.refl _ _).alloc (Nat.le_refl _) _).alloc (by simp) _)) H2.out.2.2.2.2 (H1.out.2.2.below (((Below.refl _ _).alloc (Nat.le_refl _) _).alloc (by simp) _))).mono ?_
    rintro x w2 ⟨rfl, b2⟩
    have HB : Hid (Below w.heap.size w w2) := H1.out.1.trans ((below_alloc (below_alloc b2)).mono H1.out.1.size)
    clear b2
    go_wp2_with fail
    go_ret3
    exact ⟨Dsr.text es rs, 0, 0, rfl, HB.out, .inr ⟨H2.out.2.1, es, rs, H2.out.1, .inr ⟨H2.out.2.2.1, rfl, rfl, rfl⟩⟩⟩
  · have hb : ((fe : Int) != 0) = true := by simp; omega
    have HE : Hid (PrintP t.data.toList [] fe fa) := by
      rcases hR with ⟨h1, h2⟩ | ⟨hn, es, rs, ho, ⟨hl, h1, h2⟩ | ⟨_, h, _⟩⟩
      · exact .inl ⟨h1, h2, rfl⟩
      · exact .inr ⟨hn, es, rs, ho, .inl ⟨hl, h1, h2, rfl⟩⟩
      · exact absurd h h0
    clear hR h0
    subst hga hgb
    go_wp2_with fail
    go_quiet (fail)
    go_wp2_with fail
    go_ret3
    refine ⟨[], fe, fa, rfl, ?_, HE.out⟩
    repeat (first | exact H1.out.1 | refine Below.setCell ?_ (by simp; have := H1.out.1.size; omega) _ | refine below_drewN ?_ _ | refine Below.drew ?_ | refine Below.alloc ?_ H1.out.1.size _ | refine Below.alloc ?_ (by simp; have := H1.out.1.size; omega) _)
end Go.Proofs.YtjmcokcdaddpcaaGreatDoor
set_option linter.unusedVariables false
set_option linter.unusedSimpArgs false
namespace Go.Proofs.YtjmcokcdaddpcaaGreatDoor
open Go.RowKit
theorem sorted_ext {α : Type} {lt : α → α → Prop} (irr : ∀ a, ¬ lt a a) (asym : ∀ a b, lt a b → ¬ lt b a) : ∀ {l1 l2 : List α}, l1.Pairwise lt → l2.Pairwise lt → (∀ x, x ∈ l1 ↔ x ∈ l2) → l1 = l2
  | [], [], _, _, _ => rfl
  | [], b :: l2, _, _, h => by have := (h b).2 (by simp); simp at this
  | a :: l1, [], _, _, h => by have := (h a).1 (by simp); simp at this
  | a :: l1, b :: l2, h1, h2, h => by
    obtain ⟨p1, p2⟩ := List.pairwise_cons.1 h1
    obtain ⟨q1, q2⟩ := List.pairwise_cons.1 h2
    have hab : a = b := by
      rcases List.mem_cons.1 ((h a).1 (by simp)) with e | e
      · exact e
      · rcases List.mem_cons.1 ((h b).2 (by simp)) with e' | e'
        · exact e'.symm
        · exact absurd (q1 a e) (asym _ _ (p1 b e'))
    subst hab
    rw [sorted_ext irr asym p2 q2 (fun x => ?_)]
    constructor
    · intro hx
      rcases List.mem_cons.1 ((h x).1 (List.mem_cons_of_mem _ hx)) with rfl | e
      · exact absurd (p1 x hx) (irr _)
      · exact e
    · intro hx
      rcases List.mem_cons.1 ((h x).2 (List.mem_cons_of_mem _ hx)) with rfl | e
      · exact absurd (q1 x hx) (irr _)
      · exact e
theorem cmpB_lt : ∀ (a b : List UInt8), Dsr.cmpB a b < 0 ↔ a < b
  | [], [] => by simp [Dsr.cmpB]
  | [], b :: ys => by simp [Dsr.cmpB]
  | a :: xs, [] => by simp [Dsr.cmpB]
  | a :: xs, b :: ys => by
    rw [Dsr.cmpB, List.cons_lt_cons_iff]
    rcases Dsr.u8_tri a b with h | h | h
    · simp [h]
    · subst h
      rw [if_neg (Dsr.u8_irr a), if_neg (Dsr.u8_irr a), cmpB_lt xs ys]
      constructor
      · exact fun h => .inr ⟨rfl, h⟩
      · rintro (h | h)
        · exact absurd h (Dsr.u8_irr a)
        · exact h.2
    · have h1 : ¬ a < b := fun h' => Dsr.u8_irr a (by exact UInt8.lt_trans h' h)
      have h2 : a ≠ b := fun e => by subst e; exact Dsr.u8_irr a h
      rw [if_neg h1, if_pos h]
      simp [h1, h2]
theorem lt_irr (a : List UInt8) : ¬ a < a := List.lt_irrefl a
theorem lt_asy (a b : List UInt8) (h : a < b) : ¬ b < a := List.lt_asymm h
/-- Sorted, and nothing twice. -/
theorem strict_of {l : List (List UInt8)} (h1 : l.Pairwise (fun a b => ¬ b < a)) (h2 : l.Nodup) : l.Pairwise (· < ·) := by
  refine List.Pairwise.imp ?_ (List.pairwise_and_iff.2 ⟨h1, h2⟩)
  rintro a b ⟨h, hne⟩
  rcases le_lt h with h | h
  · exact h
  · exact absurd h hne
theorem find_nodup {e : Dsr.Ev} : ∀ {es : List Dsr.Ev}, (es.map (·.name)).Nodup → e ∈ es → es.find? (fun y => y.name == e.name) = some e
  | [], _, h => by simp at h
  | a :: es, hn, h => by
    rw [List.map_cons, List.nodup_cons] at hn
    rw [List.find?_cons]
    rcases List.mem_cons.1 h with rfl | h
    · simp
    · have : a.name ≠ e.name := fun he => hn.1 (by rw [he]; exact List.mem_map.2 ⟨e, h, rfl⟩)
      rw [beq_eq_false_iff_ne.2 this]
      exact find_nodup hn.2 h
theorem sort_roles {rs l : List (List UInt8)} (h1 : rs.Pairwise (· < ·)) (h2 : ∀ r, r ∈ rs ↔ r ∈ l ∧ r ≠ []) (hn : l.Nodup) (hne : ∀ r ∈ l, r ≠ []) : rs = l.mergeSort fun x y => decide (x ≤ y) := by
  refine sorted_ext lt_irr lt_asy h1 (strict_of ?_ ?_) ?_
  · have := List.pairwise_mergeSort (le := fun (x y : List UInt8) => decide (x ≤ y)) (fun a b c h1 h2 => by simp at h1 h2 ⊢; exact List.le_trans h1 h2) (fun a b => by simp; exact List.le_total a b) l
    refine List.Pairwise.imp ?_ this
    intro a b h
    simp at h
    exact List.not_lt.2 h
  · exact (List.mergeSort_perm l _).nodup_iff.2 hn
  · intro x
    rw [h2, List.mem_mergeSort]
    exact ⟨fun h => h.1, fun h => ⟨h, hne x h⟩⟩
theorem evs_eq {l : LK} : ∀ {es0 evs : List Dsr.Ev}, (∀ e ∈ es0, l.events.find? (fun y => y.name == e.name) = some e ∧ e.roles.Nodup ∧ ∀ r ∈ e.roles, r ≠ []) → EvsOf l (es0.map (·.name)) evs → evs = es0.map (fun e => { e with roles := e.roles.mergeSort fun x y => decide (x ≤ y) })
  | [], [], _, _ => rfl
  | [], b :: evs, _, h => h.elim
  | a :: es0, [], _, h => h.elim
  | a :: es0, b :: evs, hf, h => by
    obtain ⟨⟨e0, rs, k1, k2, k3, rfl⟩, h2⟩ := h
    obtain ⟨g1, g2, g3⟩ := hf a (by simp)
    have : a = e0 := by rw [g1] at k1; exact Option.some.inj k1
    subst this
    rw [List.map_cons, evs_eq (fun e he => hf e (List.mem_cons_of_mem _ he)) h2, sort_roles k2 k3 g2 g3]
theorem compact_spec : ∀ (l : List Dsr.Rl) (p : Dsr.Rl), (p :: l).Pairwise (fun a b => 0 ≤ cmpRl b a) → (p :: Dsr.compactFrom eqRl p l).Pairwise ltR ∧ ∀ x, x ∈ p :: Dsr.compactFrom eqRl p l ↔ x ∈ p :: l
  | [], p, _ => by simp [Dsr.compactFrom]
  | y :: l, p, h => by
    obtain ⟨h1, h2⟩ := List.pairwise_cons.1 h
    obtain ⟨h3, h4⟩ := List.pairwise_cons.1 h2
    rw [Dsr.compactFrom]
    by_cases he : eqRl y p = true
    · rw [if_pos he]
      have hyp := (eqRl_iff y p).1 he
      subst hyp
      obtain ⟨i1, i2⟩ := compact_spec l y h2
      refine ⟨i1, fun x => ?_⟩
      rw [i2]
      simp
    · rw [if_neg he]
      obtain ⟨i1, i2⟩ := compact_spec l y h2
      have nlt : ∀ a b : Dsr.Rl, 0 ≤ cmpRl b a → ¬ ltR b a := fun a b h hl => by have := (cmpRl_neg b a).2 hl; omega
      refine ⟨List.pairwise_cons.2 ⟨?_, i1⟩, fun x => ?_⟩
      · intro z hz
        rw [i2] at hz
        have hzp := nlt p z (h1 z hz)
        rcases ltR_tri p z with h | h | h
        · exact h
        · exfalso
          subst h
          apply he
          rw [eqRl_iff]
          rcases List.mem_cons.1 hz with e | e
          · exact e.symm
          · have g1 := nlt p y (h1 y (by simp))
            have g2 := nlt y p (h3 p e)
            rcases ltR_tri p y with h | h | h
            · exact absurd h g2
            · exact h.symm
            · exact absurd h g1
        · exact absurd h hzp
      · rw [List.mem_cons, i2, List.mem_cons (b := p)]
theorem compact_all (l : List Dsr.Rl) (h : l.Pairwise (fun a b => 0 ≤ cmpRl b a)) : (Dsr.compact eqRl l).Pairwise ltR ∧ ∀ x, x ∈ Dsr.compact eqRl l ↔ x ∈ l := by
  cases l with
  | nil => exact ⟨List.Pairwise.nil, fun x => Iff.rfl⟩
  | cons p l => exact compact_spec l p h
def ruleK (rs : List RR) (a b : List UInt8) : List Dsr.Rl := (List.range 5).flatMap fun (k : Nat) => if hasR rs ((k : Int) + 1) a b = true then [⟨a, b, k⟩] else []
def ruleQ (rs : List RR) (ns : List (List UInt8)) : List Dsr.Rl := ns.flatMap fun a => ns.flatMap fun b => ruleK rs a b
theorem partK_eq (rs : List RR) (a b : List UInt8) : partK rs a b 5 = (ruleK rs a b).flatMap Dsr.ruLine := by
  unfold partK ruleK
  rw [List.flatMap_assoc]
  congr 1
  funext k
  split
  · simp; rfl
  · simp
theorem partA_eq (rs : List RR) (ns : List (List UInt8)) : partA rs ns ns = (ruleQ rs ns).flatMap Dsr.ruLine := by
  unfold partA ruleQ partB
  rw [List.flatMap_assoc]
  congr 1
  funext a
  rw [List.flatMap_assoc]
  congr 1
  funext b
  exact partK_eq rs a b
theorem mem_ruleK {rs : List RR} {a b : List UInt8} {r : Dsr.Rl} : r ∈ ruleK rs a b ↔ r.left = a ∧ r.right = b ∧ r.kind < 5 ∧ hasR rs ((r.kind : Int) + 1) a b = true := by
  unfold ruleK
  rw [List.mem_flatMap]
  constructor
  · rintro ⟨k, hk, h⟩
    split at h
    · rename_i hh
      simp at h; subst h
      exact ⟨rfl, rfl, by simpa using hk, hh⟩
    · simp at h
  · rintro ⟨rfl, rfl, hk, hh⟩
    exact ⟨r.kind, by simpa using hk, by rw [if_pos hh]; simp⟩
theorem mem_ruleQ {rs : List RR} {ns : List (List UInt8)} {r : Dsr.Rl} : r ∈ ruleQ rs ns ↔ r.left ∈ ns ∧ r.right ∈ ns ∧ r.kind < 5 ∧ hasR rs ((r.kind : Int) + 1) r.left r.right = true := by
  unfold ruleQ
  rw [List.mem_flatMap]
  constructor
  · rintro ⟨a, ha, h⟩
    obtain ⟨b, hb, h⟩ := List.mem_flatMap.1 h
    obtain ⟨rfl, rfl, h1, h2⟩ := mem_ruleK.1 h
    exact ⟨ha, hb, h1, h2⟩
  · rintro ⟨h1, h2, h3, h4⟩
    exact ⟨r.left, h1, List.mem_flatMap.2 ⟨r.right, h2, mem_ruleK.2 ⟨rfl, rfl, h3, h4⟩⟩⟩
theorem ruleQ_sorted (rs : List RR) {ns : List (List UInt8)} (hs : ns.Pairwise (· < ·)) : (ruleQ rs ns).Pairwise ltR := by
  unfold ruleQ
  rw [List.pairwise_flatMap]
  refine ⟨?_, ?_⟩
  · intro a ha
    rw [List.pairwise_flatMap]
    refine ⟨?_, ?_⟩
    · intro b hb
      unfold ruleK
      rw [List.pairwise_flatMap]
      refine ⟨?_, ?_⟩
      · intro k hk
        split <;> simp
      · refine List.Pairwise.imp ?_ List.pairwise_lt_range
        intro k k' hkk x hx y hy
        split at hx
        · split at hy
          · simp at hx hy; subst hx hy
            exact .inr ⟨rfl, .inr ⟨rfl, hkk⟩⟩
          · simp at hy
        · simp at hx
    · refine List.Pairwise.imp ?_ hs
      intro b b' hbb x hx y hy
      obtain ⟨x1, x2, -, -⟩ := mem_ruleK.1 hx
      obtain ⟨y1, y2, -, -⟩ := mem_ruleK.1 hy
      exact .inr ⟨by rw [x1, y1], .inl (by rw [x2, y2]; exact (cmpB_lt _ _).2 hbb)⟩
  · refine List.Pairwise.imp ?_ hs
    intro a a' haa x hx y hy
    obtain ⟨b, -, hx⟩ := List.mem_flatMap.1 hx
    obtain ⟨b', -, hy⟩ := List.mem_flatMap.1 hy
    obtain ⟨x1, -, -, -⟩ := mem_ruleK.1 hx
    obtain ⟨y1, -, -, -⟩ := mem_ruleK.1 hy
    exact .inl (by rw [x1, y1]; exact (cmpB_lt _ _).2 haa)
/-- The document's text is the program's. -/
theorem text_same {l : LK} {rd : Dsr.Rd} {ps : List Pr} {es : List Dsr.Ev} {rs : List Dsr.Rl} {x : List UInt8} (hb : Bd l rd ps) (hw : Dsr.wrongName rd.uses = none) (ho : OrdG rd es rs) (hx : TextOf l x) : x = Dsr.text es rs := by
  obtain ⟨hn1, hn2, hn3⟩ := names_ok hb hw
  obtain ⟨es0, rs0, hpe, hse, rfl, hpr, hsr, rfl⟩ := ho
  obtain ⟨ns, evs, hns, hmem, hevs, rfl⟩ := hx
  rw [← hb.ev] at hpe
  have hnd0 : (es0.map (·.name)).Nodup := (hpe.map _).nodup_iff.2 hn1
  have hs0 : (es0.map (·.name)).Pairwise (· < ·) := by
    refine strict_of ?_ hnd0
    rw [List.pairwise_map]
    refine List.Pairwise.imp ?_ hse
    intro a b h hlt
    have := (cmpB_lt _ _).2 hlt
    omega
  have hne : ∀ y, y ∈ l.events.map (·.name) → y ≠ [] := by
    intro y hy
    obtain ⟨e, he, rfl⟩ := List.mem_map.1 hy
    exact (hb.el.ne e he).1
  have ens : es0.map (·.name) = ns := sorted_ext lt_irr lt_asy hs0 hns (fun y => by
    rw [hmem, (hpe.map _).mem_iff]
    exact ⟨fun h => ⟨h, hne y h⟩, fun h => h.1⟩)
  rw [← ens] at hevs
  have eev := evs_eq (fun e he => by
    have hm := hpe.mem_iff.1 he
    exact ⟨find_nodup hn1 hm, hn2 e hm, (hb.el.ne e hm).2⟩) hevs
  have eru : ruleQ l.rules ns = Dsr.compact eqRl rs0 := by
    obtain ⟨c1, c2⟩ := compact_all rs0 hsr
    refine sorted_ext ltR_irr ltR_asym (ruleQ_sorted l.rules hns) c1 (fun r => ?_)
    rw [c2, hpr.mem_iff, hb.ru, mem_ruleQ, List.mem_map]
    constructor
    · rintro ⟨h1, h2, h3, h4⟩
      unfold hasR at h4
      obtain ⟨y, hy, h5⟩ := List.any_eq_true.1 h4
      simp only [Bool.and_eq_true, beq_iff_eq] at h5
      refine ⟨y, hy, ?_⟩
      obtain ⟨a, b, k⟩ := r
      unfold toRl
      rw [h5.1.2, h5.2]
      have : y.sign = k + 1 := by have := h5.1.1; simp at this; omega
      rw [this]
      rfl
    · rintro ⟨y, hy, rfl⟩
      obtain ⟨g1, g2⟩ := hb.sg y hy
      obtain ⟨g3, g4⟩ := hn3 y hy
      refine ⟨(hmem _).2 ⟨g3, hne _ g3⟩, (hmem _).2 ⟨g4, hne _ g4⟩, by show y.sign - 1 < 5; omega, ?_⟩
      unfold hasR
      rw [List.any_eq_true]
      refine ⟨y, hy, ?_⟩
      simp only [Bool.and_eq_true, beq_iff_eq]
      refine ⟨⟨?_, rfl⟩, rfl⟩
      show (y.sign : Int) = ((y.sign - 1 : Nat) : Int) + 1
      omega
  rw [eev, partA_eq, eru]
  rfl
/-- What the program prints is what the document asks. -/
theorem print_same {t out out' : List UInt8} {fe fa fe' fa' : Nat} (h : PrintP t out fe fa) (h' : RPrintP t out' fe' fa') : out = out' ∧ fe = fe' ∧ fa = fa' := by
  have key : ∀ ol, ParseP t fe' fa' ol → (errOf t = some (fe', fa') ∧ fe' ≠ 0 ∧ ol = none) ∨ (errOf t = none ∧ ∃ l ps, Bd l (Dsr.readR t) ps ∧ Dsr.wrongName (Dsr.readR t).uses = none ∧ ∃ x, TextOf l x ∧ ((400 < x.length ∧ fe' = 1 ∧ fa' = 0 ∧ ol = none) ∨ (x.length ≤ 400 ∧ fe' = 0 ∧ fa' = 0 ∧ ol = some l))) := by
    intro ol hp
    rcases hp with ⟨h1, rfl, rfl, rfl⟩ | ⟨hl, ts, hL, hp⟩
    · left
      exact ⟨by unfold errOf; rw [if_pos h1], by decide, rfl⟩
    · have hl' : ¬ 400 < t.length := by omega
      rcases read_sim hL with ⟨l, a, hr, he, hn, ha⟩ | ⟨l, ps, hr, hb⟩
      · rcases hp with ⟨l2, a2, hr2, rfl, rfl, rfl, hne⟩ | ⟨l2, hr2, _⟩
        · left
          rw [hr] at hr2
          injection hr2 with e1 e2
          injection e2 with e2
          subst e1 e2
          refine ⟨?_, hne, rfl⟩
          unfold errOf
          rw [if_neg hl', if_pos hn, he, ha]
        · rw [hr] at hr2; injection hr2 with _ e2; cases e2
      · rcases hp with ⟨l2, a2, hr2, _⟩ | ⟨l2, hr2, hp⟩
        · rw [hr] at hr2; injection hr2 with _ e2; cases e2
        · rw [hr] at hr2
          injection hr2 with e1 _
          subst e1
          have hf : (Dsr.readR t).fErr = 0 := hb.rf
          rw [wrong_eq hb] at hp
          rcases hp with ⟨a, hw, rfl, rfl, rfl⟩ | ⟨hw, x, hx, hp⟩
          · left
            exact ⟨by unfold errOf; rw [if_neg hl', if_neg (by rw [hf]; decide), hw]; rfl, by decide, rfl⟩
          · right
            exact ⟨by unfold errOf; rw [if_neg hl', if_neg (by rw [hf]; decide), hw]; rfl, l, ps, hb, hw, x, hx, hp⟩
  rcases h' with ⟨hp, rfl⟩ | ⟨l, hp, hx⟩
  · rcases key none hp with ⟨h1, h2, _⟩ | ⟨h1, l, ps, hb, hw, x, hx, ⟨hl, rfl, rfl, _⟩ | ⟨_, _, _, h⟩⟩
    · rcases h with ⟨g1, g2, rfl⟩ | ⟨g1, _⟩
      · rw [h1] at g1
        injection g1 with g1
        injection g1 with g1 g2
        exact ⟨rfl, g1.symm, g2.symm⟩
      · rw [h1] at g1; cases g1
    · rcases h with ⟨g1, _⟩ | ⟨g1, es, rs, ho, ⟨g2, rfl, rfl, rfl⟩ | ⟨g2, rfl, rfl, rfl⟩⟩
      · rw [h1] at g1; cases g1
      · exact ⟨rfl, rfl, rfl⟩
      · have := text_same hb hw ho hx
        subst this
        omega
    · cases h
  · rcases key (some l) hp with ⟨_, _, h1⟩ | ⟨h1, l2, ps, hb, hw, x, hx2, ⟨_, _, _, h2⟩ | ⟨hl, rfl, rfl, h2⟩⟩
    · cases h1
    · cases h2
    · injection h2 with h2
      subst h2
      rcases h with ⟨g1, _⟩ | ⟨g1, es, rs, ho, ⟨g2, rfl, rfl, rfl⟩ | ⟨g2, rfl, rfl, rfl⟩⟩
      · rw [h1] at g1; cases g1
      · have e1 := text_same hb hw ho hx2
        subst e1
        omega
      · have e2 := text_same hb hw ho hx
        exact ⟨e2.symm, rfl, rfl⟩
end Go.Proofs.YtjmcokcdaddpcaaGreatDoor
set_option linter.unusedVariables false
set_option linter.unusedSimpArgs false
namespace Go.Proofs.YtjmcokcdaddpcaaGreatDoor
open Go.RowKit
theorem own_cellS {w : World} {B : Nat} {e : TypeId} {m g c n : Nat} {xs : List Value} (h : w.ownsRow B e m (.slice (some ⟨g, 0, none⟩) n c) n xs) {j : Nat} {u : Value} (hu : xs[j]? = some u) : w.cell? ⟨g, j, none⟩ = some u := by
  have := h.cells (g := g) rfl j u hu
  simpa [Addr.add_lit] using this
theorem nodup_ij {α : Type} {l : List α} (h : l.Nodup) {i j : Nat} (hi : i < l.length) (hj : j < l.length) (e : l[i] = l[j]) : i = j := by
  rcases Nat.lt_trichotomy i j with h1 | h1 | h1
  · exact absurd e (List.pairwise_iff_getElem.1 h i j hi hj h1)
  · exact h1
  · exact absurd e.symm (List.pairwise_iff_getElem.1 h j i hj hi h1)
/-- Where a state lies: its block, its events' blocks, its rows, the events' roles. -/
structure SA where
  sb : Nat
  eb : List Nat
  ve : Value
  vr : Value
  rv : List Value
abbrev nms (es : List Dsr.Ev) : List (List UInt8) := es.map (·.name)
def ebOf (ns : List (List UInt8)) (eb : List Nat) (n : List UInt8) : Nat := eb.getD (ns.idxOf n) 0
def ruS (ns : List (List UInt8)) (eb : List Nat) (r : Dsr.Rl) : List Value := [.int .u8 r.kind, ptr (ebOf ns eb r.left), ptr (ebOf ns eb r.right)]
abbrev evB (e : Dsr.Ev) (v : Value) : Obj := .cells #[strV e.name, v, .bool e.done, .bool e.inn, .bool e.due] 177 (0, 0)
def stRows (es : List Dsr.Ev) (rs : List Dsr.Rl) (a : SA) : List Row := [⟨a.ve, 175, 1, es.length, a.eb.map ptr⟩, ⟨a.vr, 180, 3, rs.length, rs.flatMap (ruS (nms es) a.eb)⟩]
/-- A graph that was let in. -/
structure GOk (es : List Dsr.Ev) (rs : List Dsr.Rl) : Prop where
  nodup : (nms es).Nodup
  known : ∀ r ∈ rs, r.left ∈ nms es ∧ r.right ∈ nms es
  kind : ∀ r ∈ rs, r.kind < 5
  esl : es.length ≤ 1000
  rsl : rs.length ≤ 1000
  rol : ∀ e ∈ es, e.roles.length ≤ 1000
structure StAt (N : Nat) (w : World) (es : List Dsr.Ev) (rs : List Dsr.Rl) (a : SA) : Prop where
  rows : RowsOk N w (a.sb :: a.eb) (stRows es rs a)
  blk : w.heap[a.sb]? = some (.cells #[a.ve, a.vr] 174 (0, 0))
  len : a.eb.length = es.length
  rlen : a.rv.length = es.length
  ev : ∀ (i : Nat) (e : Dsr.Ev) (b : Nat) (v : Value), es[i]? = some e → a.eb[i]? = some b → a.rv[i]? = some v → w.heap[b]? = some (evB e v)
  rol : ∀ (i : Nat) (e : Dsr.Ev) (v : Value), es[i]? = some e → a.rv[i]? = some v → (∃ B, w.ownsRow B 9 1 v e.roles.length (e.roles.map strV)) ∧ ∀ k, v.ownBlock = some k → k < N
/-- All blocks of a state. -/
def Foot (es : List Dsr.Ev) (rs : List Dsr.Rl) (a : SA) (k : Nat) : Prop := Owns (a.sb :: a.eb) (stRows es rs a) k ∨ ∃ v ∈ a.rv, v.ownBlock = some k
section
variable {N : Nat} {w w' : World} {es : List Dsr.Ev} {rs : List Dsr.Rl} {a : SA}
theorem StAt.rvAt (h : StAt N w es rs a) {v : Value} (hv : v ∈ a.rv) : ∃ (i : Nat) (e : Dsr.Ev), es[i]? = some e ∧ a.rv[i]? = some v := by
  obtain ⟨i, hi, rfl⟩ := List.getElem_of_mem hv
  have : i < es.length := by rw [← h.rlen]; exact hi
  exact ⟨i, es[i], List.getElem?_eq_getElem this, List.getElem?_eq_getElem hi⟩
theorem StAt.same (h : StAt N w es rs a) (hs : w.heap.size ≤ w'.heap.size) (hk : ∀ k, k < w.heap.size → Foot es rs a k → w'.heap[k]? = w.heap[k]?) : StAt N w' es rs a := by
  refine ⟨h.rows.same hs (fun k h1 h2 => hk k h1 (.inl h2)), ?_, h.len, h.rlen, ?_, ?_⟩
  · rw [hk a.sb (h.rows.lt (.inl (by simp))).2 (.inl (.inl (by simp)))]; exact h.blk
  · intro i e b v h1 h2 h3
    have hm : b ∈ a.eb := List.mem_of_getElem? h2
    rw [hk b (h.rows.lt (.inl (by simp [hm]))).2 (.inl (.inl (by simp [hm])))]
    exact h.ev i e b v h1 h2 h3
  · intro i e v h1 h2
    obtain ⟨⟨B, ho⟩, hl⟩ := h.rol i e v h1 h2
    exact ⟨⟨B, ownsRow_of_block ho fun k hk1 hv => hk k hk1 (.inr ⟨v, List.mem_of_getElem? h2, hv⟩)⟩, hl⟩
theorem StAt.kp {S : Nat → Prop} (h : StAt N w es rs a) (hk : Kp S w w') (hS : ∀ k, S k → ¬ Foot es rs a k) : StAt N w' es rs a :=
  h.same hk.size fun k h1 h2 => hk.block k h1 (fun hs => hS k hs h2)
theorem StAt.below (h : StAt N w es rs a) (hb : Below w.heap.size w w') : StAt N w' es rs a := h.same hb.size fun k h1 _ => hb.block k h1
theorem StAt.drew (h : StAt N w es rs a) : StAt N w.drew es rs a := h.same (Nat.le_refl _) fun _ _ _ => rfl
theorem StAt.alloc (h : StAt N w es rs a) (o : Obj) : StAt N (w.alloc o) es rs a := h.same (by simp) fun k hk _ => Below.heap_alloc _ _ _ hk
theorem StAt.nodup (h : StAt N w es rs a) : a.eb.Nodup ∧ a.sb ∉ a.eb := by
  have hp := (List.pairwise_append.1 h.rows.apart).1
  rw [List.pairwise_map, List.pairwise_cons] at hp
  refine ⟨hp.2.imp (fun {x y} hd => ?_), fun hm => ?_⟩
  · rcases hd with hd | hd
    · cases hd
    · exact fun e => hd (by rw [e])
  · rcases hp.1 _ hm with hd | hd
    · cases hd
    · exact hd rfl
theorem StAt.ebLt (h : StAt N w es rs a) {b : Nat} (hb : b ∈ a.eb) : N ≤ b ∧ b < w.heap.size := h.rows.lt (.inl (by simp [hb]))
theorem StAt.sbLt (h : StAt N w es rs a) : N ≤ a.sb ∧ a.sb < w.heap.size := h.rows.lt (.inl (by simp))
/-- The event number i has been written. -/
theorem StAt.setEv (h : StAt N w es rs a) {i b : Nat} {e e' : Dsr.Ev} {v : Value} (he : es[i]? = some e) (hb : a.eb[i]? = some b) (hv : a.rv[i]? = some v) (hn : e'.name = e.name) (hr : e'.roles = e.roles)
    (hs : w.heap.size ≤ w'.heap.size) (hw : w'.heap[b]? = some (evB e' v)) (ho : ∀ k, k < w.heap.size → k ≠ b → w'.heap[k]? = w.heap[k]?) : StAt N w' (es.set i e') rs a := by
  have hi : i < es.length := (List.getElem?_eq_some_iff.1 he).1
  have hbm : b ∈ a.eb := List.mem_of_getElem? hb
  have hnm : nms (es.set i e') = nms es := by
    have hei : es[i] = e := (List.getElem?_eq_some_iff.1 he).2
    refine List.ext_getElem (by simp) fun j h1 h2 => ?_
    simp only [nms, List.getElem_map, List.getElem_set]
    split
    · rename_i hij; subst hij; rw [hn, hei]
    · rfl
  have hrow : stRows (es.set i e') rs a = stRows es rs a := by unfold stRows; rw [hnm, List.length_set]
  refine ⟨?_, ?_, by simp [h.len], by simp [h.rlen], ?_, ?_⟩
  · rw [hrow]
    exact ⟨fun r hr => ownsRow_of_block (h.rows.own r hr) fun k hk hv => ho k hk (fun e => h.rows.notFixed hr hv (by rw [e]; simp [hbm])), h.rows.apart, fun f hf => ⟨(h.rows.low f hf).1, Nat.lt_of_lt_of_le (h.rows.low f hf).2 hs⟩⟩
  · rw [ho a.sb h.sbLt.2 (fun e => h.nodup.2 (by rw [e]; exact hbm))]; exact h.blk
  · intro j x c u h1 h2 h3
    by_cases hij : j = i
    · subst hij
      rw [List.getElem?_set_self hi] at h1
      cases h1
      rw [hb] at h2; cases h2
      rw [hv] at h3; cases h3
      exact hw
    · rw [List.getElem?_set_ne (fun x => hij x.symm)] at h1
      have hcb : c ≠ b := by
        intro e
        subst e
        have hj2 : j < a.eb.length := (List.getElem?_eq_some_iff.1 h2).1
        have hi2 : i < a.eb.length := (List.getElem?_eq_some_iff.1 hb).1
        have e1 := (List.getElem?_eq_some_iff.1 h2).2
        have e2 := (List.getElem?_eq_some_iff.1 hb).2
        exact hij (nodup_ij h.nodup.1 hj2 hi2 (e1.trans e2.symm))
      rw [ho c (h.ebLt (List.mem_of_getElem? h2)).2 hcb]
      exact h.ev j x c u h1 h2 h3
  · intro j x u h1 h2
    have : ∃ y, es[j]? = some y ∧ x.roles = y.roles := by
      by_cases hij : j = i
      · subst hij
        rw [List.getElem?_set_self hi] at h1
        cases h1
        exact ⟨e, he, hr⟩
      · rw [List.getElem?_set_ne (fun x => hij x.symm)] at h1
        exact ⟨x, h1, rfl⟩
    obtain ⟨y, hy, hxy⟩ := this
    obtain ⟨⟨B, hown⟩, hl⟩ := h.rol j y u hy h2
    rw [hxy]
    exact ⟨⟨B, ownsRow_of_block hown fun k hk hv => ho k hk (by have := hl k hv; have := (h.ebLt hbm).1; omega)⟩, hl⟩
/-- An event by its name. -/
theorem StAt.at (h : StAt N w es rs a) {n : List UInt8} (hn : n ∈ nms es) : ∃ (i : Nat) (e : Dsr.Ev) (b : Nat) (v : Value), es[i]? = some e ∧ e.name = n ∧ a.eb[i]? = some b ∧ a.rv[i]? = some v ∧ ebOf (nms es) a.eb n = b ∧ w.heap[b]? = some (evB e v) := by
  have hi : (nms es).idxOf n < (nms es).length := List.idxOf_lt_length_of_mem hn
  have hi2 : (nms es).idxOf n < es.length := by simpa [nms] using hi
  have hg : (nms es)[(nms es).idxOf n] = n := List.getElem_idxOf hi
  refine ⟨(nms es).idxOf n, es[(nms es).idxOf n], a.eb[(nms es).idxOf n]'(by rw [h.len]; exact hi2), a.rv[(nms es).idxOf n]'(by rw [h.rlen]; exact hi2), List.getElem?_eq_getElem hi2, ?_, List.getElem?_eq_getElem _, List.getElem?_eq_getElem _, ?_, ?_⟩
  · exact (List.getElem_map (fun e : Dsr.Ev => e.name) (l := es) (i := (nms es).idxOf n) (h := hi)).symm.trans hg
  · unfold ebOf
    rw [List.getD_eq_getElem?_getD, List.getElem?_eq_getElem (by rw [h.len]; exact hi2)]; rfl
  · exact h.ev _ _ _ _ (List.getElem?_eq_getElem hi2) (List.getElem?_eq_getElem _) (List.getElem?_eq_getElem _)
theorem idx_of {n : List UInt8} {i : Nat} {e : Dsr.Ev} (hg : (nms es).Nodup) (he : es[i]? = some e) (hn : e.name = n) : (nms es).idxOf n = i := by
  have hi : i < es.length := (List.getElem?_eq_some_iff.1 he).1
  have h1 : (nms es)[i]'(by simpa [nms] using hi) = n := by
    have := (List.getElem?_eq_some_iff.1 he).2
    simp [nms, this, hn]
  rw [← h1]
  exact List.Nodup.idxOf_getElem hg i _
theorem find_idx {n : List UInt8} {i : Nat} {e : Dsr.Ev} (hg : (nms es).Nodup) (he : es[i]? = some e) (hn : e.name = n) : Dsr.findE es n = some e := by
  have hi : i < es.length := (List.getElem?_eq_some_iff.1 he).1
  unfold Dsr.findE
  rw [List.find?_eq_some_iff_getElem]
  refine ⟨by simp [hn], i, hi, (List.getElem?_eq_some_iff.1 he).2, fun j hj => ?_⟩
  have hne : es[j].name ≠ n := by
    intro e1
    have := idx_of hg (List.getElem?_eq_getElem (show j < es.length by omega)) e1
    have := idx_of hg he hn
    omega
  simp [hne]
theorem find_none {n : List UInt8} (hn : n ∉ nms es) : Dsr.findE es n = none := by
  unfold Dsr.findE
  rw [List.find?_eq_none]
  intro x hx
  simp only [beq_iff_eq]
  exact fun e => hn (List.mem_map.2 ⟨x, hx, e⟩)
theorem set_modN {i : Nat} {e : Dsr.Ev} (f : Dsr.Ev → Dsr.Ev) (hg : (nms es).Nodup) (he : es[i]? = some e) : es.set i (f e) = Dsr.modN f e.name es := by
  have hi : i < es.length := (List.getElem?_eq_some_iff.1 he).1
  have hei := (List.getElem?_eq_some_iff.1 he).2
  refine List.ext_getElem (by simp [Dsr.modN]) fun j h1 h2 => ?_
  simp only [Dsr.modN, List.getElem_map, List.getElem_set]
  by_cases hij : i = j
  · subst hij
    simp [hei]
  · rw [if_neg hij]
    have hj : j < es.length := by simpa using h1
    have hne : (es[j].name == e.name) = false := by
      simp only [beq_eq_false_iff_ne]
      intro e1
      have := idx_of hg (List.getElem?_eq_getElem hj) e1
      have := idx_of hg he rfl
      omega
    simp [hne]
end
end Go.Proofs.YtjmcokcdaddpcaaGreatDoor
set_option linter.unusedVariables false
set_option linter.unusedSimpArgs false
namespace Go.Proofs.YtjmcokcdaddpcaaGreatDoor
open Go.RowKit
/-- Two events stand alike. -/
structure EvSame (e e' : Dsr.Ev) : Prop where
  name : e.name = e'.name
  done : e.done = e'.done
  inn : e.inn = e'.inn
  due : e.due = e'.due
  roles : ∀ r, r ∈ e.roles ↔ r ∈ e'.roles
def OptSame : Option Dsr.Ev → Option Dsr.Ev → Prop
  | none, none => True
  | some e, some e' => EvSame e e'
  | _, _ => False
/-- Two graphs stand alike, by name. -/
structure Alike (es es' : List Dsr.Ev) (rs rs' : List Dsr.Rl) : Prop where
  nd : (nms es).Nodup
  nd' : (nms es').Nodup
  ev : ∀ n, OptSame (Dsr.findE es n) (Dsr.findE es' n)
  ru : ∀ r, r ∈ rs ↔ r ∈ rs'
theorem any_mem {α : Type} {l l' : List α} (h : ∀ x, x ∈ l ↔ x ∈ l') (f : α → Bool) : l.any f = l'.any f := by
  rw [Bool.eq_iff_iff, List.any_eq_true, List.any_eq_true]
  exact ⟨fun ⟨x, hx, hf⟩ => ⟨x, (h x).1 hx, hf⟩, fun ⟨x, hx, hf⟩ => ⟨x, (h x).2 hx, hf⟩⟩
theorem findE_some {es : List Dsr.Ev} {n : List UInt8} {e : Dsr.Ev} (h : Dsr.findE es n = some e) : e ∈ es ∧ e.name = n := by
  unfold Dsr.findE at h
  exact ⟨List.mem_of_find?_eq_some h, by have := List.find?_some h; simpa using this⟩
theorem findE_map {f : Dsr.Ev → Dsr.Ev} (hf : ∀ e, (f e).name = e.name) (n : List UInt8) : ∀ es : List Dsr.Ev, Dsr.findE (es.map f) n = (Dsr.findE es n).map f
  | [] => rfl
  | e :: es => by
    unfold Dsr.findE
    rw [List.map_cons, List.find?_cons, List.find?_cons, hf]
    split
    · rfl
    · exact findE_map hf n es
theorem doneE_name (rs : List Dsr.Rl) (a : List UInt8) (e : Dsr.Ev) : (Dsr.doneE rs a e).name = e.name := rfl
theorem nms_map {f : Dsr.Ev → Dsr.Ev} (hf : ∀ e, (f e).name = e.name) (es : List Dsr.Ev) : nms (es.map f) = nms es := by
  unfold nms
  rw [List.map_map]
  exact List.map_congr_left fun e _ => hf e
theorem Alike.doP {es es' : List Dsr.Ev} {rs rs' : List Dsr.Rl} (h : Alike es es' rs rs') (a : List UInt8) : Alike (Dsr.doP rs a es) (Dsr.doP rs' a es') rs rs' := by
  rw [Dsr.doP_map, Dsr.doP_map]
  refine ⟨by rw [nms_map (doneE_name rs a)]; exact h.nd, by rw [nms_map (doneE_name rs' a)]; exact h.nd', fun n => ?_, h.ru⟩
  rw [findE_map (doneE_name rs a), findE_map (doneE_name rs' a)]
  have := h.ev n
  rcases h1 : Dsr.findE es n with _ | e <;> rcases h2 : Dsr.findE es' n with _ | e' <;> rw [h1, h2] at this
  · trivial
  · exact this
  · exact this
  · have hr : ∀ k b, Dsr.hasRl rs k a b = Dsr.hasRl rs' k a b := fun k b => any_mem h.ru _
    refine ⟨this.name, ?_, ?_, ?_, this.roles⟩
    · show (e.done || _) = (e'.done || _); rw [this.done, this.name]
    · show (Dsr.hasRl rs 3 a e.name || (e.inn && !Dsr.hasRl rs 4 a e.name)) = (Dsr.hasRl rs' 3 a e'.name || (e'.inn && !Dsr.hasRl rs' 4 a e'.name)); rw [this.name, this.inn, hr, hr]
    · show ((e.due && !(e.name == a)) || Dsr.hasRl rs 2 a e.name) = ((e'.due && !(e'.name == a)) || Dsr.hasRl rs' 2 a e'.name); rw [this.name, this.due, hr]
theorem hinders_same {e e' : Dsr.Ev} (h : EvSame e e') (k : Nat) : Dsr.hinders k e = Dsr.hinders k e' := by
  unfold Dsr.hinders
  rw [h.inn, h.done, h.due]
theorem Alike.blocked {es es' : List Dsr.Ev} {rs rs' : List Dsr.Rl} (h : Alike es es' rs rs') (n : List UInt8) : Dsr.blockedP es rs n = Dsr.blockedP es' rs' n := by
  unfold Dsr.blockedP
  rw [any_mem h.ru]
  refine congrArg _ (funext fun r => ?_)
  congr 1
  unfold Dsr.blocksR
  have := h.ev r.left
  rcases h1 : Dsr.findE es r.left with _ | e <;> rcases h2 : Dsr.findE es' r.left with _ | e' <;> rw [h1, h2] at this
  · exact this.elim
  · exact this.elim
  · exact hinders_same this _
theorem contains_same {l l' : List (List UInt8)} (h : ∀ r, r ∈ l ↔ r ∈ l') (r : List UInt8) : l.contains r = l'.contains r := by
  rw [Bool.eq_iff_iff, List.contains_iff_mem, List.contains_iff_mem]
  exact h r
theorem Alike.verdict {es es' : List Dsr.Ev} {rs rs' : List Dsr.Rl} (h : Alike es es' rs rs') (role n : List UInt8) : Dsr.verdictP es rs role n = Dsr.verdictP es' rs' role n := by
  unfold Dsr.verdictP
  have := h.ev n
  rcases h1 : Dsr.findE es n with _ | e <;> rcases h2 : Dsr.findE es' n with _ | e' <;> rw [h1, h2] at this
  · exact this.elim
  · exact this.elim
  · show (if e.roles.contains role = false then 2 else if e.inn = false then 3 else if Dsr.blockedP es rs n then 4 else 0) = (if e'.roles.contains role = false then 2 else if e'.inn = false then 3 else if Dsr.blockedP es' rs' n then 4 else 0)
    rw [contains_same this.roles, this.inn, h.blocked]
theorem findE_mem {es : List Dsr.Ev} (hn : (nms es).Nodup) {e : Dsr.Ev} (he : e ∈ es) : Dsr.findE es e.name = some e := find_nodup hn he
theorem Alike.some {es es' : List Dsr.Ev} {rs rs' : List Dsr.Rl} (h : Alike es es' rs rs') {e : Dsr.Ev} (he : e ∈ es) : ∃ e' ∈ es', EvSame e e' := by
  have := h.ev e.name
  rw [findE_mem h.nd he] at this
  rcases h2 : Dsr.findE es' e.name with _ | e' <;> rw [h2] at this
  · exact this.elim
  · exact ⟨e', (findE_some h2).1, this⟩
theorem EvSame.symm {e e' : Dsr.Ev} (h : EvSame e e') : EvSame e' e := ⟨h.name.symm, h.done.symm, h.inn.symm, h.due.symm, fun r => (h.roles r).symm⟩
theorem Alike.symm {es es' : List Dsr.Ev} {rs rs' : List Dsr.Rl} (h : Alike es es' rs rs') : Alike es' es rs' rs := by
  refine ⟨h.nd', h.nd, fun n => ?_, fun r => (h.ru r).symm⟩
  have := h.ev n
  rcases h1 : Dsr.findE es n with _ | e <;> rcases h2 : Dsr.findE es' n with _ | e' <;> rw [h1, h2] at this
  · trivial
  · exact this
  · exact this
  · exact EvSame.symm this
theorem Alike.accepting {es es' : List Dsr.Ev} {rs rs' : List Dsr.Rl} (h : Alike es es' rs rs') : Dsr.acceptingP es = Dsr.acceptingP es' := by
  unfold Dsr.acceptingP
  congr 1
  rw [Bool.eq_iff_iff, List.any_eq_true, List.any_eq_true]
  constructor
  · rintro ⟨e, he, hf⟩
    obtain ⟨e', he', hs⟩ := h.some he
    exact ⟨e', he', by rw [← hs.inn, ← hs.due]; exact hf⟩
  · rintro ⟨e, he, hf⟩
    obtain ⟨e', he', hs⟩ := h.symm.some he
    exact ⟨e', he', by rw [← hs.inn, ← hs.due]; exact hf⟩
theorem verdict_zero {es : List Dsr.Ev} {rs : List Dsr.Rl} {role n : List UInt8} (h : Dsr.verdictP es rs role n = 0) : n ∈ nms es := by
  unfold Dsr.verdictP at h
  rcases h1 : Dsr.findE es n with _ | e <;> rw [h1] at h
  · simp at h
  · obtain ⟨h2, h3⟩ := findE_some h1
    exact List.mem_map.2 ⟨e, h2, h3⟩
theorem mem_enabled {es : List Dsr.Ev} {rs : List Dsr.Rl} {role n : List UInt8} : n ∈ Dsr.enabledP es rs role ↔ Dsr.verdictP es rs role n = 0 := by
  unfold Dsr.enabledP
  constructor
  · intro h
    obtain ⟨e, he, rfl⟩ := List.mem_map.1 h
    have := (List.mem_filter.1 he).2
    simpa using this
  · intro h
    obtain ⟨e, he, rfl⟩ := List.mem_map.1 (verdict_zero h)
    exact List.mem_map.2 ⟨e, List.mem_filter.2 ⟨he, by simpa using h⟩, rfl⟩
theorem enabled_sorted {es : List Dsr.Ev} (hs : (nms es).Pairwise (· < ·)) (rs : List Dsr.Rl) (role : List UInt8) : (Dsr.enabledP es rs role).Pairwise (· < ·) := by
  unfold Dsr.enabledP
  rw [List.pairwise_map]
  unfold nms at hs
  rw [List.pairwise_map] at hs
  exact hs.filter _
/-- What is enabled, in order. -/
theorem Alike.enabled {es es' : List Dsr.Ev} {rs rs' : List Dsr.Rl} (h : Alike es es' rs rs') (hs : (nms es').Pairwise (· < ·)) (hne : ∀ n ∈ nms es', n ≠ []) {role : List UInt8} {out : List (List UInt8)} (ho : out.Pairwise (· < ·)) (hm : ∀ x, x ∈ out ↔ x ∈ Dsr.enabledP es rs role ∧ x ≠ []) : out = Dsr.enabledP es' rs' role := by
  refine sorted_ext lt_irr lt_asy ho (enabled_sorted hs rs' role) (fun x => ?_)
  rw [hm, mem_enabled, mem_enabled, h.verdict]
  exact ⟨fun h => h.1, fun h => ⟨h, hne x (verdict_zero h)⟩⟩
theorem find_perm {es0 evs : List Dsr.Ev} (hp : es0.Perm evs) (hn : (nms evs).Nodup) (n : List UInt8) : Dsr.findE es0 n = Dsr.findE evs n := by
  have hn0 : (nms es0).Nodup := (hp.map _).nodup_iff.2 hn
  by_cases h : n ∈ nms evs
  · obtain ⟨e, he, rfl⟩ := List.mem_map.1 h
    rw [findE_mem hn he, findE_mem hn0 (hp.mem_iff.2 he)]
  · rw [find_none h, find_none (fun h' => h ((hp.map _).mem_iff.1 h'))]
/-- The graph as the program orders it, and as it was read. -/
theorem alike_of {l : LK} {rd : Dsr.Rd} {ps : List Pr} {es : List Dsr.Ev} {rs : List Dsr.Rl} (hb : Bd l rd ps) (hw : Dsr.wrongName rd.uses = none) (ho : OrdG rd es rs) {T : Nat} (hrd : Dsr.RdOk T rd) :
    Alike l.events es (l.rules.map toRl) rs ∧ (nms es).Pairwise (· < ·) ∧ (∀ n ∈ nms es, n ≠ []) ∧ GOk es rs := by
  obtain ⟨hn1, hn2, hn3⟩ := names_ok hb hw
  obtain ⟨es0, rs0, hpe, hse, rfl, hpr, hsr, rfl⟩ := ho
  rw [← hb.ev] at hpe
  rw [hb.ru] at hpr
  have hnd0 : (nms es0).Nodup := (hpe.map _).nodup_iff.2 hn1
  have hs0 : (nms es0).Pairwise (· < ·) := by
    refine strict_of ?_ hnd0
    rw [List.pairwise_map]
    refine List.Pairwise.imp ?_ hse
    intro a b h hlt
    have := (cmpB_lt _ _).2 hlt
    omega
  obtain ⟨c1, c2⟩ := compact_all rs0 hsr
  have hnm : nms (es0.map (fun e => { e with roles := e.roles.mergeSort fun x y => decide (x ≤ y) })) = nms es0 := nms_map (f := fun e => { e with roles := e.roles.mergeSort fun x y => decide (x ≤ y) }) (fun _ => rfl) es0
  have hl0 : es0.length = l.events.length := hpe.length_eq
  refine ⟨⟨hn1, by rw [hnm]; exact hnd0, fun n => ?_, fun r => ?_⟩, by rw [hnm]; exact hs0, ?_, ?_⟩
  · rw [findE_map (f := fun e => { e with roles := e.roles.mergeSort fun x y => decide (x ≤ y) }) (fun _ => rfl), find_perm hpe hn1]
    rcases Dsr.findE l.events n with _ | e
    · trivial
    · exact ⟨rfl, rfl, rfl, rfl, fun r => (List.mem_mergeSort).symm⟩
  · rw [c2, hpr.mem_iff]
  · rw [hnm]
    intro n hn
    obtain ⟨e, he, rfl⟩ := List.mem_map.1 ((hpe.map _).mem_iff.1 hn)
    exact (hb.el.ne e he).1
  · refine ⟨by rw [hnm]; exact hnd0, ?_, ?_, ?_, ?_, ?_⟩
    · intro r hr
      rw [c2, hpr.mem_iff] at hr
      obtain ⟨y, hy, rfl⟩ := List.mem_map.1 hr
      rw [hnm]
      exact ⟨(hpe.map _).mem_iff.2 (hn3 y hy).1, (hpe.map _).mem_iff.2 (hn3 y hy).2⟩
    · intro r hr
      rw [c2, hpr.mem_iff] at hr
      obtain ⟨y, hy, rfl⟩ := List.mem_map.1 hr
      have := hb.sg y hy
      show y.sign - 1 < 5
      omega
    · have := hb.e10
      simp
      omega
    · have h1 := compact_len' (eq := eqRl) rs0
      have h2 := hpr.length_eq
      have h3 := hb.r20
      simp at h2
      omega
    · intro e he
      obtain ⟨e0, he0, rfl⟩ := List.mem_map.1 he
      have := (hrd.ev e0 (by rw [← hb.ev]; exact hpe.mem_iff.1 he0)).few
      show (e0.roles.mergeSort _).length ≤ 1000
      rw [List.length_mergeSort]
      omega
/-- A text that is let in. -/
theorem let_in {t : List UInt8} {fe fa : Nat} {ol : Option LK} (hp : ParseP t fe fa ol) (h : errOf t = none) : ∃ l ps, Bd l (Dsr.readR t) ps ∧ Dsr.wrongName (Dsr.readR t).uses = none := by
  unfold errOf at h
  split at h
  · cases h
  · rename_i hl
    split at h
    · cases h
    · rename_i hf
      rcases hp with ⟨h1, _⟩ | ⟨_, ts, hL, _⟩
      · exact absurd h1 hl
      · rcases read_sim hL with ⟨l, a, hr, he, hn, ha⟩ | ⟨l, ps, hr, hb⟩
        · exact absurd hn hf
        · exact ⟨l, ps, hb, by simpa using h⟩
/-- Every graph that is let in is in form. -/
theorem gok_all (t : ByteArray) (w : World) (h : errOf t.data.toList = none) (es : List Dsr.Ev) (rs : List Dsr.Rl) (ho : OrdG (Dsr.readR t.data.toList) es rs) : GOk es rs := by
  obtain ⟨e, w', fr, hR, _⟩ := rParse_any t w []
  obtain ⟨pv, fe, fa, ol, -, hp, -⟩ := hR
  obtain ⟨l, ps, hb, hw⟩ := let_in hp h
  exact (alike_of hb hw ho (Dsr.readR_rd _)).2.2.2
end Go.Proofs.YtjmcokcdaddpcaaGreatDoor
