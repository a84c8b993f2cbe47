import Derived.Test.YtjmcokcdaddpcaaGreatDoorUf
import Derived.Test.YtjmcokcdaddpcaaGreatDoorReB
import Derived.Test.YtjmcokcdaddpcaaGreatDoorReC
set_option linter.unusedVariables false
set_option linter.unusedSimpArgs false
namespace Go.Proofs.YtjmcokcdaddpcaaGreatDoor
open Go.RowKit
theorem lines_sim {n : Nat} : ∀ (f : Nat) {l : LK} {q : Dsr.QR} {ps : List Pr}, Bd l q.1 ps → TGs q → 32 ≤ f + (l.events.length + l.rules.length) →
    Err (Dsr.endT n) (Dsr.linesL (Dsr.endT n) f q) (runP l (stream (Dsr.endT n) q)) ∨ ∃ l' ps', Bd l' (Dsr.linesL (Dsr.endT n) f q).1 ps' ∧ runP l (stream (Dsr.endT n) q) = (l', none)
  | 0, l, q, ps, hb, hT, hf => by
    have h1 := hb.e10
    have h2 := hb.r20
    omega
  | f + 1, l, q, ps, hb, hT, hf => by
    have hE : (Dsr.endT n).kind = 10 := rfl
    unfold Dsr.linesL
    by_cases h10 : q.1.now.kind = 10
    · right
      rw [if_pos h10]
      exact ⟨l, ps, hb, run_stop (hT.1.nil.2 h10) hb.w0⟩
    rw [if_neg h10]
    by_cases h2 : q.1.now.kind = 2
    · rw [if_pos h2]
      rcases event_line (n := n) hb hT h2 with h | ⟨l', ps', hb', hT', hr, hm⟩
      · left
        obtain ⟨c, a, hc, hbd, h⟩ := h
        rw [hbd.lines hE f]
        exact ⟨c, a, hc, hbd, h⟩
      · rw [hr]
        exact lines_sim f hb' hT' (by omega)
    rw [if_neg h2]
    by_cases h1 : q.1.now.kind = 1
    · rw [if_pos h1]
      rcases rule_line (n := n) hb hT h1 with h | ⟨l', ps', hb', hT', hr, hm⟩
      · left
        obtain ⟨c, a, hc, hbd, h⟩ := h
        rw [hbd.lines hE f]
        exact ⟨c, a, hc, hbd, h⟩
      · rw [hr]
        exact lines_sim f hb' hT' (by omega)
    rw [if_neg h1]
    left
    have hbd : Bad (Dsr.endT n) 2 q.1.now.at_ (Dsr.refuseL (Dsr.endT n) q 2) := refuse_bad hb.rf 2
    rw [hbd.lines hE f]
    refine err_of (c := 2) (by decide) (fun h => h10 (hT.1.nil.1 h.1)) ?_ hbd
    unfold nextP beginP
    rw [if_pos hb.w0, if_neg (by rw [hT.1.ev]; simp [h2]), named_not hT.1 h1]
theorem bd0 (rd : Dsr.Rd) (h1 : rd.events = []) (h2 : rd.rules = []) (h3 : rd.uses = []) (h4 : rd.fErr = 0) : Bd lk0 rd [] :=
  ⟨h1.symm, h2, by simp [lk0], rfl, h3, ⟨by simp, by simp⟩, by intro p hp; simp at hp, ⟨rfl, by simp [lk0], by simp [lk0]⟩, by simp [lk0], rfl, rfl, rfl, h4, rfl, by simp [lk0], by simp [lk0]⟩
/-- The look and the reader come to the same. -/
theorem read_sim {t : List UInt8} {ts : List Dsr.Tok} (hL : Dsr.Lst t 0 ts) :
    (∃ l a, runP lk0 (ts ++ [Dsr.endT t.length]) = (l, some a) ∧ l.e = (Dsr.readR t).fErr ∧ (Dsr.readR t).fErr ≠ 0 ∧ (Dsr.readR t).fAt = a) ∨
    (∃ l ps, runP lk0 (ts ++ [Dsr.endT t.length]) = (l, none) ∧ Bd l (Dsr.readR t) ps) := by
  rw [Dsr.readR_eq hL]
  unfold Dsr.readL
  have hT : TGs (Dsr.newL (Dsr.endT t.length) ts) := by
    have h := lst_tg hL
    unfold Dsr.newL TGs
    rcases ts with _ | ⟨k, S⟩
    · exact ⟨end_tg _, by simp⟩
    · exact ⟨h k (by simp), fun x hx => h x (by simp at hx ⊢; exact .inr hx)⟩
  have e : runP lk0 (ts ++ [Dsr.endT t.length]) = runP lk0 (stream (Dsr.endT t.length) (Dsr.newL (Dsr.endT t.length) ts)) := by
    have := run_tail (l := lk0) (n := t.length) (q := ((⟨Dsr.endT t.length, [], [], [], 0, 0⟩ : Dsr.Rd), ts)) (by decide)
    exact this
  rw [e]
  rcases lines_sim (n := t.length) 32 (bd0 (Dsr.newL (Dsr.endT t.length) ts).1 rfl rfl rfl rfl) hT (by simp [lk0]) with ⟨c, a, hc, hb, l', h, he⟩ | ⟨l', ps', hb, h⟩
  · left
    exact ⟨l', a, h, by rw [he, hb.1], by rw [hb.1]; exact hc, hb.2.1⟩
  · right
    exact ⟨l', ps', h, hb⟩
end Go.Proofs.YtjmcokcdaddpcaaGreatDoor
set_option linter.unusedVariables false
set_option linter.unusedSimpArgs false
namespace Go.Proofs.YtjmcokcdaddpcaaGreatDoor
open Go.RowKit
theorem any_congr' {α : Type} {l : List α} {f g : α → Bool} (h : ∀ x ∈ l, f x = g x) : l.any f = l.any g := by
  rw [Bool.eq_iff_iff, List.any_eq_true, List.any_eq_true]
  constructor
  · rintro ⟨x, hx, h1⟩; exact ⟨x, hx, by rw [← h x hx]; exact h1⟩
  · rintro ⟨x, hx, h1⟩; exact ⟨x, hx, by rw [h x hx]; exact h1⟩
theorem findI_neg (x : List UInt8) : ∀ (es : List Dsr.Ev) (k : Nat), findI es x k < 0 ↔ x ∉ es.map (·.name)
  | [], k => by simp [findI]
  | e :: es, k => by
    unfold findI
    by_cases h : e.name = x
    · rw [if_pos h]; simp [h]
    · rw [if_neg h, findI_neg x es (k + 1)]
      simp only [List.map_cons, List.mem_cons, not_or]
      exact ⟨fun h1 => ⟨fun e => h e.symm, h1⟩, fun h1 => h1.2⟩
theorem bad_eq {l : LK} {rd : Dsr.Rd} {ps : List Pr} (hb : Bd l rd ps) {pre : List Pr} {p : Pr} (hp : p ∈ ps) (hpre : ∀ x ∈ pre, x ∈ ps) : badU l.events (pre.map (·.1)) p.1 = Dsr.isWrong p.2 (pre.map (·.2)) (ps.map (·.2)) := by
  obtain ⟨h1, h2, h3, h4⟩ := hb.pok.eq p hp
  have hcl' : ∀ x ∈ pre, p.2.as_ < 2 → (clash p.1 x.1 = true ↔ (x.2.as_ = p.2.as_ ∧ x.2.name = p.2.name ∧ (p.2.as_ = 0 ∨ x.1.line = p.1.line))) := by
    intro x hx hc
    obtain ⟨g1, g2, g3, g4⟩ := hb.pok.eq x (hpre x hx)
    unfold clash
    simp only [Bool.and_eq_true, Bool.or_eq_true, beq_iff_eq]
    rw [h1, g1, g2, h2]
    constructor
    · intro h; exact ⟨by omega, h.2.1, by omega⟩
    · intro h; exact ⟨by omega, h.2.1, by omega⟩
  have hc : p.2.as_ = 0 ∨ p.2.as_ = 1 ∨ p.2.as_ = 2 := by omega
  unfold badU Dsr.isWrong
  rw [h1]
  rcases hc with hc | hc | hc
  · rw [if_pos hc, hc]
    simp only [List.any_map]
    show (((((0 + 1 : Nat) : Int) == 3) && _) || (decide (((0 + 1 : Nat) : Int) < 3) && _)) = _
    rw [show ((((0 + 1 : Nat) : Int) == 3)) = false from rfl, show decide (((0 + 1 : Nat) : Int) < 3) = true from rfl, Bool.false_and, Bool.false_or, Bool.true_and]
    apply any_congr'
    intro x hx
    rw [Bool.eq_iff_iff]
    show clash p.1 x.1 = true ↔ Dsr.isDef p.2.name x.2 = true
    rw [hcl' x hx (by omega)]
    unfold Dsr.isDef
    simp only [Bool.and_eq_true, beq_iff_eq, decide_eq_true_eq]
    constructor
    · intro h; exact ⟨by omega, h.2.1⟩
    · intro h; exact ⟨by omega, h.2, .inl hc⟩
  · rw [if_neg (by omega), if_pos hc, hc]
    simp only [List.any_map]
    show (((((1 + 1 : Nat) : Int) == 3) && _) || (decide (((1 + 1 : Nat) : Int) < 3) && _)) = _
    rw [show ((((1 + 1 : Nat) : Int) == 3)) = false from rfl, show decide (((1 + 1 : Nat) : Int) < 3) = true from rfl, Bool.false_and, Bool.false_or, Bool.true_and]
    apply any_congr'
    intro x hx
    rw [Bool.eq_iff_iff]
    show clash p.1 x.1 = true ↔ Dsr.isRole p.2.event p.2.name x.2 = true
    rw [hcl' x hx (by omega)]
    unfold Dsr.isRole
    simp only [Bool.and_eq_true, beq_iff_eq, decide_eq_true_eq]
    constructor
    · intro h
      have h1 : x.2.as_ = 1 := by omega
      exact ⟨⟨h1, (hb.pok.ro x (hpre x hx) p hp h1 hc).1 (by omega)⟩, h.2.1⟩
    · intro h
      exact ⟨by omega, h.2, .inr ((hb.pok.ro x (hpre x hx) p hp h.1.1 hc).2 h.1.2)⟩
  · rw [if_neg (by omega), if_neg (by omega), hc]
    show (((((2 + 1 : Nat) : Int) == 3) && _) || (decide (((2 + 1 : Nat) : Int) < 3) && _)) = _
    rw [show ((((2 + 1 : Nat) : Int) == 3)) = true from rfl, show decide (((2 + 1 : Nat) : Int) < 3) = false from rfl, Bool.true_and, Bool.false_and, Bool.or_false, Bool.eq_iff_iff, decide_eq_true_eq, findI_neg, hb.el.nm, ← h2]
    rw [Bool.not_eq_true', ← Bool.not_eq_true, List.any_eq_true]
    constructor
    · rintro h ⟨v, hv, hd⟩
      obtain ⟨x, hx, rfl⟩ := List.mem_map.1 hv
      unfold Dsr.isDef at hd
      simp only [Bool.and_eq_true, beq_iff_eq, decide_eq_true_eq] at hd
      exact h (List.mem_map.2 ⟨x, List.mem_filter.2 ⟨hx, by simp [hd.1]⟩, hd.2⟩)
    · intro h hm
      obtain ⟨x, hx, hn⟩ := List.mem_map.1 hm
      obtain ⟨hx1, hx2⟩ := List.mem_filter.1 hx
      exact h ⟨x.2, List.mem_map.2 ⟨x, hx1, rfl⟩, by unfold Dsr.isDef; simp at hx2 ⊢; exact ⟨hx2, hn⟩⟩
theorem wrong_from {l : LK} {rd : Dsr.Rd} {ps : List Pr} (hb : Bd l rd ps) : ∀ (post pre : List Pr), ps = pre ++ post → wrongR l.events (pre.map (·.1)) (post.map (·.1)) = Dsr.wrongFrom (ps.map (·.2)) post.length pre.length
  | [], pre, h => rfl
  | p :: post, pre, h => by
    have hp : p ∈ ps := by rw [h]; simp
    have hget : (ps.map (·.2))[pre.length]? = some p.2 := by rw [h]; simp
    have htake : (ps.map (·.2)).take pre.length = pre.map (·.2) := by rw [h]; simp
    have ih := wrong_from hb post (pre ++ [p]) (by rw [h]; simp)
    rw [List.map_append, List.length_append] at ih
    rw [List.length_cons, Dsr.wrongFrom, hget]
    show (if badU l.events (pre.map (·.1)) p.1 = true then some p.1.tk.at_ else wrongR l.events (pre.map (·.1) ++ [p.1]) (post.map (·.1))) = (if Dsr.isWrong p.2 ((ps.map (·.2)).take pre.length) (ps.map (·.2)) = true then some p.2.at_ else Dsr.wrongFrom (ps.map (·.2)) post.length (pre.length + 1))
    rw [htake, bad_eq hb hp (fun x hx => by rw [h]; simp [hx]), (hb.pok.eq p hp).2.2.1]
    split
    · rfl
    · exact ih
theorem wrong_eq {l : LK} {rd : Dsr.Rd} {ps : List Pr} (hb : Bd l rd ps) : wrongR l.events [] l.uses = Dsr.wrongName rd.uses := by
  have := wrong_from hb ps [] rfl
  unfold Dsr.wrongName
  rw [hb.lu, hb.us, List.length_map]
  exact this
theorem from_none {us : List Dsr.Us} : ∀ (f k : Nat), Dsr.wrongFrom us f k = none → ∀ j u, k ≤ j → j < k + f → us[j]? = some u → Dsr.isWrong u (us.take j) us = false
  | 0, k, h, j, u, h1, h2, hu => by omega
  | f + 1, k, h, j, u, h1, h2, hu => by
    rw [Dsr.wrongFrom] at h
    by_cases hj : j = k
    · subst hj
      rw [hu] at h
      simp only at h
      rcases hw : Dsr.isWrong u (us.take j) us with _ | _
      · rfl
      · rw [if_pos hw] at h; cases h
    · rcases hk : us[k]? with _ | v
      · rw [List.getElem?_eq_none_iff] at hk
        have := (List.getElem?_eq_some_iff.1 hu).1
        omega
      · rw [hk] at h
        simp only at h
        split at h
        · cases h
        · exact from_none f (k + 1) h j u (by omega) (by omega) hu
/-- Nothing is named twice, and what is meant is there. -/
theorem names_ok {l : LK} {rd : Dsr.Rd} {ps : List Pr} (hb : Bd l rd ps) (hw : Dsr.wrongName rd.uses = none) :
    (l.events.map (·.name)).Nodup ∧ (∀ e ∈ l.events, e.roles.Nodup) ∧ ∀ r ∈ l.rules, r.left ∈ l.events.map (·.name) ∧ r.right ∈ l.events.map (·.name) := by
  have hnone : ∀ j u, rd.uses[j]? = some u → Dsr.isWrong u (rd.uses.take j) rd.uses = false := fun j u hu => from_none _ 0 hw j u (Nat.zero_le _) (by have := (List.getElem?_eq_some_iff.1 hu).1; omega) hu
  rw [hb.us] at hnone
  have hpw : ps.Pairwise (fun a b => ¬ (b.2.as_ = 0 ∧ a.2.as_ = 0 ∧ a.2.name = b.2.name) ∧ ¬ (b.2.as_ = 1 ∧ a.2.as_ = 1 ∧ a.2.event = b.2.event ∧ a.2.name = b.2.name)) := by
    rw [List.pairwise_iff_getElem]
    intro i j hi hj hij
    have h := hnone j ps[j].2 (by rw [List.getElem?_map, List.getElem?_eq_getElem hj]; rfl)
    have hm : ps[i].2 ∈ (ps.map (·.2)).take j := by
      apply List.mem_of_getElem? (i := i)
      rw [List.getElem?_take_of_lt hij, List.getElem?_map, List.getElem?_eq_getElem hi]; rfl
    unfold Dsr.isWrong at h
    refine ⟨?_, ?_⟩
    · rintro ⟨h1, h2, h3⟩
      rw [if_pos h1, List.any_eq_false] at h
      exact h _ hm (by unfold Dsr.isDef; simp [h2, h3])
    · rintro ⟨h1, h2, h3, h4⟩
      rw [if_neg (by omega), if_pos h1, List.any_eq_false] at h
      exact h _ hm (by unfold Dsr.isRole; simp [h2, h3, h4])
  refine ⟨?_, ?_, ?_⟩
  · rw [hb.el.nm]
    unfold List.Nodup
    rw [List.pairwise_map]
    have := hpw.filter (fun p => p.2.as_ == 0)
    refine List.Pairwise.imp_of_mem ?_ this
    intro a b ha hb' h e
    have h1 := (List.mem_filter.1 ha).2
    have h2 := (List.mem_filter.1 hb').2
    simp at h1 h2
    exact h.1 ⟨h2, h1, e⟩
  · intro e he
    obtain ⟨j, hj, hje⟩ := List.mem_iff_getElem.1 he
    rw [hb.el.ro j e (by rw [List.getElem?_eq_getElem hj, hje])]
    unfold List.Nodup
    rw [List.pairwise_map]
    have := hpw.filter (fun p => p.2.as_ == 1 && p.2.event == j)
    refine List.Pairwise.imp_of_mem ?_ this
    intro a b ha hb' h e
    have h1 := (List.mem_filter.1 ha).2
    have h2 := (List.mem_filter.1 hb').2
    simp at h1 h2
    exact h.2 ⟨h2.1, h1.1, by omega, e⟩
  · have key : ∀ p ∈ ps, p.2.as_ = 2 → p.2.name ∈ l.events.map (·.name) := by
      intro p hp h2
      obtain ⟨j, hj, hje⟩ := List.mem_iff_getElem.1 hp
      have h := hnone j p.2 (by rw [List.getElem?_map, List.getElem?_eq_getElem hj, hje]; rfl)
      unfold Dsr.isWrong at h
      rw [if_neg (by omega), if_neg (by omega)] at h
      have h : (ps.map (·.2)).any (Dsr.isDef p.2.name) = true := by simpa using h
      obtain ⟨v, hv, hd⟩ := List.any_eq_true.1 h
      obtain ⟨x, hx, rfl⟩ := List.mem_map.1 hv
      unfold Dsr.isDef at hd
      simp only [Bool.and_eq_true, beq_iff_eq, decide_eq_true_eq] at hd
      rw [hb.el.nm]
      exact List.mem_map.2 ⟨x, List.mem_filter.2 ⟨hx, by simp [hd.1]⟩, hd.2⟩
    intro r hr
    obtain ⟨⟨p, hp, h1, h2⟩, ⟨p', hp', h3, h4⟩⟩ := hb.rp r hr
    exact ⟨by rw [← h2]; exact key p hp h1, by rw [← h4]; exact key p' hp' h3⟩
end Go.Proofs.YtjmcokcdaddpcaaGreatDoor
set_option linter.unusedVariables false
set_option linter.unusedSimpArgs false
namespace Go.Proofs.YtjmcokcdaddpcaaGreatDoor
open Go.RowKit
theorem sorted_ext {α : Type} {lt : α → α → Prop} (irr : ∀ a, ¬ lt a a) (asym : ∀ a b, lt a b → ¬ lt b a) : ∀ {l1 l2 : List α}, l1.Pairwise lt → l2.Pairwise lt → (∀ x, x ∈ l1 ↔ x ∈ l2) → l1 = l2
  | [], [], _, _, _ => rfl
  | [], b :: l2, _, _, h => by have := (h b).2 (by simp); simp at this
  | a :: l1, [], _, _, h => by have := (h a).1 (by simp); simp at this
  | a :: l1, b :: l2, h1, h2, h => by
    obtain ⟨p1, p2⟩ := List.pairwise_cons.1 h1
    obtain ⟨q1, q2⟩ := List.pairwise_cons.1 h2
    have hab : a = b := by
      rcases List.mem_cons.1 ((h a).1 (by simp)) with e | e
      · exact e
      · rcases List.mem_cons.1 ((h b).2 (by simp)) with e' | e'
        · exact e'.symm
        · exact absurd (q1 a e) (asym _ _ (p1 b e'))
    subst hab
    rw [sorted_ext irr asym p2 q2 (fun x => ?_)]
    constructor
    · intro hx
      rcases List.mem_cons.1 ((h x).1 (List.mem_cons_of_mem _ hx)) with rfl | e
      · exact absurd (p1 x hx) (irr _)
      · exact e
    · intro hx
      rcases List.mem_cons.1 ((h x).2 (List.mem_cons_of_mem _ hx)) with rfl | e
      · exact absurd (q1 x hx) (irr _)
      · exact e
theorem cmpB_lt : ∀ (a b : List UInt8), Dsr.cmpB a b < 0 ↔ a < b
  | [], [] => by simp [Dsr.cmpB]
  | [], b :: ys => by simp [Dsr.cmpB]
  | a :: xs, [] => by simp [Dsr.cmpB]
  | a :: xs, b :: ys => by
    rw [Dsr.cmpB, List.cons_lt_cons_iff]
    rcases Dsr.u8_tri a b with h | h | h
    · simp [h]
    · subst h
      rw [if_neg (Dsr.u8_irr a), if_neg (Dsr.u8_irr a), cmpB_lt xs ys]
      constructor
      · exact fun h => .inr ⟨rfl, h⟩
      · rintro (h | h)
        · exact absurd h (Dsr.u8_irr a)
        · exact h.2
    · have h1 : ¬ a < b := fun h' => Dsr.u8_irr a (by exact UInt8.lt_trans h' h)
      have h2 : a ≠ b := fun e => by subst e; exact Dsr.u8_irr a h
      rw [if_neg h1, if_pos h]
      simp [h1, h2]
theorem lt_irr (a : List UInt8) : ¬ a < a := List.lt_irrefl a
theorem lt_asy (a b : List UInt8) (h : a < b) : ¬ b < a := List.lt_asymm h
/-- Sorted, and nothing twice. -/
theorem strict_of {l : List (List UInt8)} (h1 : l.Pairwise (fun a b => ¬ b < a)) (h2 : l.Nodup) : l.Pairwise (· < ·) := by
  refine List.Pairwise.imp ?_ (List.pairwise_and_iff.2 ⟨h1, h2⟩)
  rintro a b ⟨h, hne⟩
  rcases le_lt h with h | h
  · exact h
  · exact absurd h hne
theorem find_nodup {e : Dsr.Ev} : ∀ {es : List Dsr.Ev}, (es.map (·.name)).Nodup → e ∈ es → es.find? (fun y => y.name == e.name) = some e
  | [], _, h => by simp at h
  | a :: es, hn, h => by
    rw [List.map_cons, List.nodup_cons] at hn
    rw [List.find?_cons]
    rcases List.mem_cons.1 h with rfl | h
    · simp
    · have : a.name ≠ e.name := fun he => hn.1 (by rw [he]; exact List.mem_map.2 ⟨e, h, rfl⟩)
      rw [beq_eq_false_iff_ne.2 this]
      exact find_nodup hn.2 h
theorem sort_roles {rs l : List (List UInt8)} (h1 : rs.Pairwise (· < ·)) (h2 : ∀ r, r ∈ rs ↔ r ∈ l ∧ r ≠ []) (hn : l.Nodup) (hne : ∀ r ∈ l, r ≠ []) : rs = l.mergeSort fun x y => decide (x ≤ y) := by
  refine sorted_ext lt_irr lt_asy h1 (strict_of ?_ ?_) ?_
  · have := List.pairwise_mergeSort (le := fun (x y : List UInt8) => decide (x ≤ y)) (fun a b c h1 h2 => by simp at h1 h2 ⊢; exact List.le_trans h1 h2) (fun a b => by simp; exact List.le_total a b) l
    refine List.Pairwise.imp ?_ this
    intro a b h
    simp at h
    exact List.not_lt.2 h
  · exact (List.mergeSort_perm l _).nodup_iff.2 hn
  · intro x
    rw [h2, List.mem_mergeSort]
    exact ⟨fun h => h.1, fun h => ⟨h, hne x h⟩⟩
theorem evs_eq {l : LK} : ∀ {es0 evs : List Dsr.Ev}, (∀ e ∈ es0, l.events.find? (fun y => y.name == e.name) = some e ∧ e.roles.Nodup ∧ ∀ r ∈ e.roles, r ≠ []) → EvsOf l (es0.map (·.name)) evs → evs = es0.map (fun e => { e with roles := e.roles.mergeSort fun x y => decide (x ≤ y) })
  | [], [], _, _ => rfl
  | [], b :: evs, _, h => h.elim
  | a :: es0, [], _, h => h.elim
  | a :: es0, b :: evs, hf, h => by
    obtain ⟨⟨e0, rs, k1, k2, k3, rfl⟩, h2⟩ := h
    obtain ⟨g1, g2, g3⟩ := hf a (by simp)
    have : a = e0 := by rw [g1] at k1; exact Option.some.inj k1
    subst this
    rw [List.map_cons, evs_eq (fun e he => hf e (List.mem_cons_of_mem _ he)) h2, sort_roles k2 k3 g2 g3]
theorem compact_spec : ∀ (l : List Dsr.Rl) (p : Dsr.Rl), (p :: l).Pairwise (fun a b => 0 ≤ cmpRl b a) → (p :: Dsr.compactFrom eqRl p l).Pairwise ltR ∧ ∀ x, x ∈ p :: Dsr.compactFrom eqRl p l ↔ x ∈ p :: l
  | [], p, _ => by simp [Dsr.compactFrom]
  | y :: l, p, h => by
    obtain ⟨h1, h2⟩ := List.pairwise_cons.1 h
    obtain ⟨h3, h4⟩ := List.pairwise_cons.1 h2
    rw [Dsr.compactFrom]
    by_cases he : eqRl y p = true
    · rw [if_pos he]
      have hyp := (eqRl_iff y p).1 he
      subst hyp
      obtain ⟨i1, i2⟩ := compact_spec l y h2
      refine ⟨i1, fun x => ?_⟩
      rw [i2]
      simp
    · rw [if_neg he]
      obtain ⟨i1, i2⟩ := compact_spec l y h2
      have nlt : ∀ a b : Dsr.Rl, 0 ≤ cmpRl b a → ¬ ltR b a := fun a b h hl => by have := (cmpRl_neg b a).2 hl; omega
      refine ⟨List.pairwise_cons.2 ⟨?_, i1⟩, fun x => ?_⟩
      · intro z hz
        rw [i2] at hz
        have hzp := nlt p z (h1 z hz)
        rcases ltR_tri p z with h | h | h
        · exact h
        · exfalso
          subst h
          apply he
          rw [eqRl_iff]
          rcases List.mem_cons.1 hz with e | e
          · exact e.symm
          · have g1 := nlt p y (h1 y (by simp))
            have g2 := nlt y p (h3 p e)
            rcases ltR_tri p y with h | h | h
            · exact absurd h g2
            · exact h.symm
            · exact absurd h g1
        · exact absurd h hzp
      · rw [List.mem_cons, i2, List.mem_cons (b := p)]
theorem compact_all (l : List Dsr.Rl) (h : l.Pairwise (fun a b => 0 ≤ cmpRl b a)) : (Dsr.compact eqRl l).Pairwise ltR ∧ ∀ x, x ∈ Dsr.compact eqRl l ↔ x ∈ l := by
  cases l with
  | nil => exact ⟨List.Pairwise.nil, fun x => Iff.rfl⟩
  | cons p l => exact compact_spec l p h
def ruleK (rs : List RR) (a b : List UInt8) : List Dsr.Rl := (List.range 5).flatMap fun (k : Nat) => if hasR rs ((k : Int) + 1) a b = true then [⟨a, b, k⟩] else []
def ruleQ (rs : List RR) (ns : List (List UInt8)) : List Dsr.Rl := ns.flatMap fun a => ns.flatMap fun b => ruleK rs a b
theorem partK_eq (rs : List RR) (a b : List UInt8) : partK rs a b 5 = (ruleK rs a b).flatMap Dsr.ruLine := by
  unfold partK ruleK
  rw [List.flatMap_assoc]
  congr 1
  funext k
  split
  · simp; rfl
  · simp
theorem partA_eq (rs : List RR) (ns : List (List UInt8)) : partA rs ns ns = (ruleQ rs ns).flatMap Dsr.ruLine := by
  unfold partA ruleQ partB
  rw [List.flatMap_assoc]
  congr 1
  funext a
  rw [List.flatMap_assoc]
  congr 1
  funext b
  exact partK_eq rs a b
theorem mem_ruleK {rs : List RR} {a b : List UInt8} {r : Dsr.Rl} : r ∈ ruleK rs a b ↔ r.left = a ∧ r.right = b ∧ r.kind < 5 ∧ hasR rs ((r.kind : Int) + 1) a b = true := by
  unfold ruleK
  rw [List.mem_flatMap]
  constructor
  · rintro ⟨k, hk, h⟩
    split at h
    · rename_i hh
      simp at h; subst h
      exact ⟨rfl, rfl, by simpa using hk, hh⟩
    · simp at h
  · rintro ⟨rfl, rfl, hk, hh⟩
    exact ⟨r.kind, by simpa using hk, by rw [if_pos hh]; simp⟩
theorem mem_ruleQ {rs : List RR} {ns : List (List UInt8)} {r : Dsr.Rl} : r ∈ ruleQ rs ns ↔ r.left ∈ ns ∧ r.right ∈ ns ∧ r.kind < 5 ∧ hasR rs ((r.kind : Int) + 1) r.left r.right = true := by
  unfold ruleQ
  rw [List.mem_flatMap]
  constructor
  · rintro ⟨a, ha, h⟩
    obtain ⟨b, hb, h⟩ := List.mem_flatMap.1 h
    obtain ⟨rfl, rfl, h1, h2⟩ := mem_ruleK.1 h
    exact ⟨ha, hb, h1, h2⟩
  · rintro ⟨h1, h2, h3, h4⟩
    exact ⟨r.left, h1, List.mem_flatMap.2 ⟨r.right, h2, mem_ruleK.2 ⟨rfl, rfl, h3, h4⟩⟩⟩
theorem ruleQ_sorted (rs : List RR) {ns : List (List UInt8)} (hs : ns.Pairwise (· < ·)) : (ruleQ rs ns).Pairwise ltR := by
  unfold ruleQ
  rw [List.pairwise_flatMap]
  refine ⟨?_, ?_⟩
  · intro a ha
    rw [List.pairwise_flatMap]
    refine ⟨?_, ?_⟩
    · intro b hb
      unfold ruleK
      rw [List.pairwise_flatMap]
      refine ⟨?_, ?_⟩
      · intro k hk
        split <;> simp
      · refine List.Pairwise.imp ?_ List.pairwise_lt_range
        intro k k' hkk x hx y hy
        split at hx
        · split at hy
          · simp at hx hy; subst hx hy
            exact .inr ⟨rfl, .inr ⟨rfl, hkk⟩⟩
          · simp at hy
        · simp at hx
    · refine List.Pairwise.imp ?_ hs
      intro b b' hbb x hx y hy
      obtain ⟨x1, x2, -, -⟩ := mem_ruleK.1 hx
      obtain ⟨y1, y2, -, -⟩ := mem_ruleK.1 hy
      exact .inr ⟨by rw [x1, y1], .inl (by rw [x2, y2]; exact (cmpB_lt _ _).2 hbb)⟩
  · refine List.Pairwise.imp ?_ hs
    intro a a' haa x hx y hy
    obtain ⟨b, -, hx⟩ := List.mem_flatMap.1 hx
    obtain ⟨b', -, hy⟩ := List.mem_flatMap.1 hy
    obtain ⟨x1, -, -, -⟩ := mem_ruleK.1 hx
    obtain ⟨y1, -, -, -⟩ := mem_ruleK.1 hy
    exact .inl (by rw [x1, y1]; exact (cmpB_lt _ _).2 haa)
/-- The document's text is the program's. -/
theorem text_same {l : LK} {rd : Dsr.Rd} {ps : List Pr} {es : List Dsr.Ev} {rs : List Dsr.Rl} {x : List UInt8} (hb : Bd l rd ps) (hw : Dsr.wrongName rd.uses = none) (ho : OrdG rd es rs) (hx : TextOf l x) : x = Dsr.text es rs := by
  obtain ⟨hn1, hn2, hn3⟩ := names_ok hb hw
  obtain ⟨es0, rs0, hpe, hse, rfl, hpr, hsr, rfl⟩ := ho
  obtain ⟨ns, evs, hns, hmem, hevs, rfl⟩ := hx
  rw [← hb.ev] at hpe
  have hnd0 : (es0.map (·.name)).Nodup := (hpe.map _).nodup_iff.2 hn1
  have hs0 : (es0.map (·.name)).Pairwise (· < ·) := by
    refine strict_of ?_ hnd0
    rw [List.pairwise_map]
    refine List.Pairwise.imp ?_ hse
    intro a b h hlt
    have := (cmpB_lt _ _).2 hlt
    omega
  have hne : ∀ y, y ∈ l.events.map (·.name) → y ≠ [] := by
    intro y hy
    obtain ⟨e, he, rfl⟩ := List.mem_map.1 hy
    exact (hb.el.ne e he).1
  have ens : es0.map (·.name) = ns := sorted_ext lt_irr lt_asy hs0 hns (fun y => by
    rw [hmem, (hpe.map _).mem_iff]
    exact ⟨fun h => ⟨h, hne y h⟩, fun h => h.1⟩)
  rw [← ens] at hevs
  have eev := evs_eq (fun e he => by
    have hm := hpe.mem_iff.1 he
    exact ⟨find_nodup hn1 hm, hn2 e hm, (hb.el.ne e hm).2⟩) hevs
  have eru : ruleQ l.rules ns = Dsr.compact eqRl rs0 := by
    obtain ⟨c1, c2⟩ := compact_all rs0 hsr
    refine sorted_ext ltR_irr ltR_asym (ruleQ_sorted l.rules hns) c1 (fun r => ?_)
    rw [c2, hpr.mem_iff, hb.ru, mem_ruleQ, List.mem_map]
    constructor
    · rintro ⟨h1, h2, h3, h4⟩
      unfold hasR at h4
      obtain ⟨y, hy, h5⟩ := List.any_eq_true.1 h4
      simp only [Bool.and_eq_true, beq_iff_eq] at h5
      refine ⟨y, hy, ?_⟩
      obtain ⟨a, b, k⟩ := r
      unfold toRl
      rw [h5.1.2, h5.2]
      have : y.sign = k + 1 := by have := h5.1.1; simp at this; omega
      rw [this]
      rfl
    · rintro ⟨y, hy, rfl⟩
      obtain ⟨g1, g2⟩ := hb.sg y hy
      obtain ⟨g3, g4⟩ := hn3 y hy
      refine ⟨(hmem _).2 ⟨g3, hne _ g3⟩, (hmem _).2 ⟨g4, hne _ g4⟩, by show y.sign - 1 < 5; omega, ?_⟩
      unfold hasR
      rw [List.any_eq_true]
      refine ⟨y, hy, ?_⟩
      simp only [Bool.and_eq_true, beq_iff_eq]
      refine ⟨⟨?_, rfl⟩, rfl⟩
      show (y.sign : Int) = ((y.sign - 1 : Nat) : Int) + 1
      omega
  rw [eev, partA_eq, eru]
  rfl
/-- What the program prints is what the document asks. -/
theorem print_same {t out out' : List UInt8} {fe fa fe' fa' : Nat} (h : PrintP t out fe fa) (h' : RPrintP t out' fe' fa') : out = out' ∧ fe = fe' ∧ fa = fa' := by
  have key : ∀ ol, ParseP t fe' fa' ol → (errOf t = some (fe', fa') ∧ fe' ≠ 0 ∧ ol = none) ∨ (errOf t = none ∧ ∃ l ps, Bd l (Dsr.readR t) ps ∧ Dsr.wrongName (Dsr.readR t).uses = none ∧ ∃ x, TextOf l x ∧ ((400 < x.length ∧ fe' = 1 ∧ fa' = 0 ∧ ol = none) ∨ (x.length ≤ 400 ∧ fe' = 0 ∧ fa' = 0 ∧ ol = some l))) := by
    intro ol hp
    rcases hp with ⟨h1, rfl, rfl, rfl⟩ | ⟨hl, ts, hL, hp⟩
    · left
      exact ⟨by unfold errOf; rw [if_pos h1], by decide, rfl⟩
    · have hl' : ¬ 400 < t.length := by omega
      rcases read_sim hL with ⟨l, a, hr, he, hn, ha⟩ | ⟨l, ps, hr, hb⟩
      · rcases hp with ⟨l2, a2, hr2, rfl, rfl, rfl, hne⟩ | ⟨l2, hr2, _⟩
        · left
          rw [hr] at hr2
          injection hr2 with e1 e2
          injection e2 with e2
          subst e1 e2
          refine ⟨?_, hne, rfl⟩
          unfold errOf
          rw [if_neg hl', if_pos hn, he, ha]
        · rw [hr] at hr2; injection hr2 with _ e2; cases e2
      · rcases hp with ⟨l2, a2, hr2, _⟩ | ⟨l2, hr2, hp⟩
        · rw [hr] at hr2; injection hr2 with _ e2; cases e2
        · rw [hr] at hr2
          injection hr2 with e1 _
          subst e1
          have hf : (Dsr.readR t).fErr = 0 := hb.rf
          rw [wrong_eq hb] at hp
          rcases hp with ⟨a, hw, rfl, rfl, rfl⟩ | ⟨hw, x, hx, hp⟩
          · left
            exact ⟨by unfold errOf; rw [if_neg hl', if_neg (by rw [hf]; decide), hw]; rfl, by decide, rfl⟩
          · right
            exact ⟨by unfold errOf; rw [if_neg hl', if_neg (by rw [hf]; decide), hw]; rfl, l, ps, hb, hw, x, hx, hp⟩
  rcases h' with ⟨hp, rfl⟩ | ⟨l, hp, hx⟩
  · rcases key none hp with ⟨h1, h2, _⟩ | ⟨h1, l, ps, hb, hw, x, hx, ⟨hl, rfl, rfl, _⟩ | ⟨_, _, _, h⟩⟩
    · rcases h with ⟨g1, g2, rfl⟩ | ⟨g1, _⟩
      · rw [h1] at g1
        injection g1 with g1
        injection g1 with g1 g2
        exact ⟨rfl, g1.symm, g2.symm⟩
      · rw [h1] at g1; cases g1
    · rcases h with ⟨g1, _⟩ | ⟨g1, es, rs, ho, ⟨g2, rfl, rfl, rfl⟩ | ⟨g2, rfl, rfl, rfl⟩⟩
      · rw [h1] at g1; cases g1
      · exact ⟨rfl, rfl, rfl⟩
      · have := text_same hb hw ho hx
        subst this
        omega
    · cases h
  · rcases key (some l) hp with ⟨_, _, h1⟩ | ⟨h1, l2, ps, hb, hw, x, hx2, ⟨_, _, _, h2⟩ | ⟨hl, rfl, rfl, h2⟩⟩
    · cases h1
    · cases h2
    · injection h2 with h2
      subst h2
      rcases h with ⟨g1, _⟩ | ⟨g1, es, rs, ho, ⟨g2, rfl, rfl, rfl⟩ | ⟨g2, rfl, rfl, rfl⟩⟩
      · rw [h1] at g1; cases g1
      · have e1 := text_same hb hw ho hx2
        subst e1
        omega
      · have e2 := text_same hb hw ho hx
        exact ⟨e2.symm, rfl, rfl⟩
end Go.Proofs.YtjmcokcdaddpcaaGreatDoor
set_option linter.unusedVariables false
set_option linter.unusedSimpArgs false
namespace Go.Proofs.YtjmcokcdaddpcaaGreatDoor
open Go.RowKit
/-- A graph's order is one. -/
theorem ord_uniq {r : Dsr.Rd} {es : List Dsr.Ev} {rs : List Dsr.Rl} (h : OrdG r es rs) {ce : List Dsr.Ev} {cr : List Dsr.Rl} (hpe : ce.Perm r.events) (hse : ce.Pairwise (fun a b => 0 ≤ Dsr.cmpB b.name a.name))
    (hnd : ∀ a ∈ r.events, ∀ b ∈ r.events, a.name = b.name → a = b) (hpr : cr.Perm r.rules) (hsr : cr.Pairwise (fun a b => 0 ≤ cmpRl b a)) :
    es = ce.map (fun e => { e with roles := e.roles.mergeSort fun x y => decide (x ≤ y) }) ∧ rs = Dsr.compact eqRl cr := by
  obtain ⟨es0, rs0, h1, h2, rfl, h4, h5, rfl⟩ := h
  have e1 : es0 = ce := List.Perm.eq_of_pairwise (le := fun a b : Dsr.Ev => 0 ≤ Dsr.cmpB b.name a.name) (fun a b ha hb hab hba => by
    have := Dsr.cmpB_swap a.name b.name
    exact hnd a (h1.mem_iff.1 ha) b (hpe.mem_iff.1 hb) (Dsr.cmpB_eq (by omega))) h2 hse (h1.trans hpe.symm)
  have e2 : rs0 = cr := List.Perm.eq_of_pairwise (le := fun a b : Dsr.Rl => 0 ≤ cmpRl b a) (fun a b ha hb hab hba => by
    rcases ltR_tri a b with h | h | h
    · have := (cmpRl_neg a b).2 h; omega
    · exact h
    · have := (cmpRl_neg b a).2 h; omega) h5 hsr (h4.trans hpr.symm)
  rw [e1, e2]
  exact ⟨rfl, rfl⟩
def fixT : List UInt8 := [98, 32, 42, 45, 62, 97, 59, 101, 118, 101, 110, 116, 32, 98, 32, 98, 121, 32, 100, 44, 99, 32, 100, 111, 110, 101, 59, 101, 118, 101, 110, 116, 32, 97, 32, 98, 121, 32, 99, 32, 100, 117, 101, 32, 59]
def fixO : List UInt8 := [101, 118, 101, 110, 116, 32, 97, 32, 98, 121, 32, 99, 32, 100, 117, 101, 59, 10, 101, 118, 101, 110, 116, 32, 98, 32, 98, 121, 32, 99, 44, 32, 100, 32, 100, 111, 110, 101, 59, 10, 98, 32, 42, 45, 62, 32, 97, 59, 10]
def fixA : Dsr.Ev := ⟨[97], [[99]], false, true, true⟩
def fixB : Dsr.Ev := ⟨[98], [[100], [99]], true, true, false⟩
theorem fix_ev : (Dsr.readR fixT).events = [fixB, fixA] := by kernel_rfl
theorem fix_ru : (Dsr.readR fixT).rules = [⟨[98], [97], 2⟩] := by kernel_rfl
theorem fix_err : errOf fixT = none := by kernel_rfl
theorem fix_sort1 : ([[100], [99]] : List (List UInt8)).mergeSort (fun x y => decide (x ≤ y)) = [[99], [100]] := by
  simp [List.mergeSort, List.MergeSort.Internal.splitInTwo, List.merge]
  decide
theorem fix_text : Dsr.text ([fixA, fixB].map (fun e => { e with roles := e.roles.mergeSort fun x y => decide (x ≤ y) })) (Dsr.compact eqRl [⟨[98], [97], 2⟩]) = fixO := by
  simp only [List.map_cons, List.map_nil, fixA, fixB]
  rw [fix_sort1, List.mergeSort_singleton]
  decide
theorem fix_print {out : List UInt8} {fe fa : Nat} (h : PrintP fixT out fe fa) : out = fixO ∧ fe = 0 ∧ fa = 0 := by
  rcases h with ⟨h, _⟩ | ⟨_, es, rs, ho, h⟩
  · rw [fix_err] at h; cases h
  · have e := ord_uniq ho (ce := [fixA, fixB]) (cr := [⟨[98], [97], 2⟩]) (by rw [fix_ev]; exact List.Perm.swap _ _ _) (by simp only [List.pairwise_cons]; decide)
      (by
        rw [fix_ev]
        intro a ha b hb he
        simp at ha hb
        rcases ha with rfl | rfl <;> rcases hb with rfl | rfl
        · rfl
        · exact absurd he (by decide)
        · exact absurd he (by decide)
        · rfl) (by rw [fix_ru]) (by simp)
    rw [e.1, e.2, fix_text] at h
    rcases h with ⟨h1, _⟩ | ⟨_, rfl, rfl, rfl⟩
    · exact absurd h1 (by decide)
    · exact ⟨rfl, rfl, rfl⟩
abbrev stepA (t : ByteArray) : Value := .agg #[.int .i64 1, .int .i64 0, .string t, .string ⟨#[]⟩, .slice none 0 0, .int .i64 0, .int .i64 0]
set_option maxRecDepth 100000 in
set_option maxHeartbeats 1600000 in
theorem texts_print (t : ByteArray) (w : World) (hS : SignsIn w) :
    Calls Tryz.prog 16 #[stepA t] w fun e w' => e = .returned (.bool true) ∧ Below w.heap.size w w' := by
  have HS : Hid (SignsIn w) := hS
  clear hS
  go_enter Tryz.func16, Tryz.ntmps16
  go_wp2_with fail
  refine (print_any (HS.out.below (below_alloc1 _))).mono ?_
  rintro x w1 ⟨out, fe, fa, rfl, b1, hP⟩
  have c2 : w1.cell? ⟨w.heap.size, 2, none⟩ = some (.string t) := by
    rw [b1.cell (p := ⟨w.heap.size, 2, none⟩) (by simp)]
    simp
  have hlt : w.heap.size < w1.heap.size := World.block_lt_of_cell? _ _ c2
  have H1 : Hid (PrintP t.data.toList out fe fa ∧ Below w.heap.size w w1) := ⟨hP, (below_alloc1 _).trans (b1.mono (by simp))⟩
  clear b1 hP
  go_wp2_with fail
  refine (rPrint_any t _).mono ?_
  rintro x w2 ⟨out', fe', fa', rfl, hP', b2⟩
  obtain ⟨rfl, rfl, rfl⟩ := print_same H1.out.1 hP'
  have H2 : Hid (Below w.heap.size w w2) := H1.out.2.trans (b2.mono H1.out.2.size)
  clear hP' b2
  go_wp2_with fail
  go_ret
  exact ⟨rfl, H2.out⟩
/-- A slice of strings that can be read. -/
def StrsIs (w : World) (v : Value) (ss : List ByteArray) : Prop :=
  (v = .slice none 0 0 ∧ ss = []) ∨ ∃ (a : Addr) (cap : Nat), v = .slice (some a) ss.length cap ∧ ss.length ≤ maxLen ∧ ∀ i, i < ss.length → w.cell? (a.add i) = some (.string (ss.getD i ByteArray.empty))
theorem StrsIs.below {w w' : World} {v : Value} {ss : List ByteArray} (h : StrsIs w v ss) (hb : Below w.heap.size w w') : StrsIs w' v ss := by
  rcases h with h | ⟨a, cap, h1, h2, h3⟩
  · exact .inl h
  · refine .inr ⟨a, cap, h1, h2, fun i hi => ?_⟩
    have := h3 i hi
    rw [hb.cell (World.block_lt_of_cell? _ _ this)]
    exact this
set_option maxRecDepth 100000 in
set_option maxHeartbeats 3200000 in
theorem graphs_law (w : World) (v : Value) (ss : List ByteArray) (h : StrsIs w v ss) (hS : SignsIn w) :
    Calls Tryz.prog 3 #[v] w fun e w' => e = .returned (.bool true) ∧ Below w.heap.size w w' := by
  have hform : ∃ a c, v = .slice a ss.length c := by
    rcases h with ⟨rfl, rfl⟩ | ⟨a, cap, h1, _⟩
    · exact ⟨_, _, rfl⟩
    · exact ⟨_, _, h1⟩
  obtain ⟨va, vc, rfl⟩ := hform
  have HS : Hid (SignsIn w ∧ StrsIs w (.slice va ss.length vc) ss) := ⟨hS, h⟩
  have hml : (ss.length : Int) ≤ 9223372036854775807 := by
    rcases h with ⟨_, rfl⟩ | ⟨a, cap, _, h2, _⟩
    · simp
    · have h3 : ss.length ≤ 9223372036854775807 := Nat.le_trans h2 (by unfold maxLen; decide)
      omega
  clear h hS
  go_enter Tryz.func3, Tryz.ntmps3
  go_wp2_with fail
  refine (print_any HS.out.1).mono ?_
  rintro x w1 ⟨out, fe, fa, rfl, b1, hP⟩
  obtain ⟨rfl, rfl, rfl⟩ := fix_print hP
  have H1 : Hid (Below w.heap.size w w1) := b1
  clear b1 hP
  go_wp2_with fail
  go_loopg [6] ss.length (fun g iv wr => ∃ n : Nat, iv = .int .i64 n ∧ n + g = ss.length ∧ Below w.heap.size w wr)
  case atStart => exact ⟨0, rfl, by omega, H1.out⟩
  case round =>
    obtain ⟨n, rfl, hn, hb⟩ := hrel
    have HB : Hid (Below w.heap.size w wr) := hb
    by_cases hi : n < ss.length
    · have hs := HS.out.2.below hb
      have hc : ∃ a, va = some a ∧ wr.cell? (a.add n) = some (.string (ss.getD n ByteArray.empty)) := by
        rcases hs with ⟨_, rfl⟩ | ⟨a, cap, h1, _, h3⟩
        · simp at hi
        · injection h1 with h1
          exact ⟨a, h1, h3 n hi⟩
      obtain ⟨a, rfl, hc⟩ := hc
      obtain ⟨m, rfl⟩ : ∃ m, gk = m + 1 := ⟨gk - 1, by omega⟩
      generalize ss.getD n ByteArray.empty = t at *
      clear hs hb
      go_wp2_with fail
      refine (texts_print t _ (HS.out.1.below HB.out)).mono ?_
      rintro e w2 ⟨rfl, b2⟩
      have H2 : Hid (Below w.heap.size w w2) := HB.out.trans (b2.mono HB.out.size)
      clear b2
      go_wp2_with fail
      go_roundg m
      case measure => omega
      case rel => exact ⟨n + 1, by go_num, by omega, H2.out⟩
    · have hnl : n = ss.length := by omega
      subst hnl
      clear hb
      go_wp2_with fail
      go_ret
      exact ⟨rfl, HB.out⟩
end Go.Proofs.YtjmcokcdaddpcaaGreatDoor
