import Derived.Test.YtjmcokcdaddpcaaGreatDoorUy
set_option linter.unusedVariables false
set_option linter.unusedSimpArgs false
namespace Go.Proofs.YtjmcokcdaddpcaaGreatDoor
open Go.RowKit
section
variable {wz : World} {N : Nat} {w w1 w2 : World} {ω : Nat → Nat} {s : WS}
/-- A call of a case, then the document's: the pair has gone on. -/
theorem inv_both (h : WInv wz N w ω s) {i : Nat} {p p' : PSt} (hp : s.ps[i]? = some p) {S1 S2 : Nat → Prop} (hk1 : Kp S1 w w1) (hS1 : ∀ k, S1 k → PFoot p k) (hc1 : CsAt p'.M w1 p'.cb p'.c p'.a p'.wk) (hf1 : ∀ k, PFoot p' k → PFoot p k ∨ w.heap.size ≤ k)
    (hk2 : Kp S2 w1 w2) (hS2 : ∀ k, S2 k → QFoot p k) (hr2 : RefAt w2 p') (hf2 : ∀ k, QFoot p' k → QFoot p k ∨ w1.heap.size ≤ k) (hl : Lnk p'.c p'.rc) (hpr : prC p' = prC p) {sv : Value} (hsv : ∀ k, sv.ownBlock = some k → w.heap.size ≤ k ∧ k < w1.heap.size ∧ ¬ PFoot p' k) :
    ∃ ω', WInv wz N w2 ω' { s with ps := s.ps.set i p' } ∧ (∀ k, sv.ownBlock = some k → ω' k = 2) ∧ ∀ k, k < w.heap.size → ω' k = ω k := by
  classical
  have hi : i < s.ps.length := (List.getElem?_eq_some_iff.1 hp).1
  have hP := h.pr i p hp
  have hB := h.bk
  have hwl : s.wb < w.heap.size := (Array.getElem?_eq_some_iff.1 hB.blk).1
  have h10 := hB.wb10
  let q : Nat → Nat := fun k => if PFoot p' k then 3 + 2 * i else if sv.ownBlock = some k then 2 else 4 + 2 * i
  -- old blocks of other owners
  have hold : ∀ k, k < w.heap.size → ω k ≠ 3 + 2 * i → ω k ≠ 4 + 2 * i → w2.heap[k]? = w.heap[k]? := fun k hk o1 o2 =>
    (hk2.block k (Nat.lt_of_lt_of_le hk hk1.size) (fun hs => o2 (hP.qo k (hS2 k hs)))).trans (hk1.block k hk (fun hs => o1 (hP.po k (hS1 k hs))))
  have hsz : w.heap.size ≤ w2.heap.size := Nat.le_trans hk1.size hk2.size
  have hx1 : ∀ k, k < w.heap.size → ω k = 1 → w2.heap[k]? = w.heap[k]? := fun k hk e => hold k hk (by omega) (by omega)
  have hx2 : ∀ k, k < w.heap.size → ω k = 2 → w2.heap[k]? = w.heap[k]? := fun k hk e => hold k hk (by omega) (by omega)
  have h0k : ∀ k, k < 5 → w2.heap[k]? = w.heap[k]? := fun k hk => hold k (by omega) (by rw [h.g0 k hk]; omega) (by rw [h.g0 k hk]; omega)
  have hc2 : CsAt p'.M w2 p'.cb p'.c p'.a p'.wk := hc1.same hk2.size (fun k hk hf => hk2.block k hk (fun hs => by
    have hq := hP.qo k (hS2 k hs)
    have hlt := hP.lt (.inr (hS2 k hs))
    rcases hf1 k hf with e | e
    · have := hP.po k e; omega
    · omega))
  refine ⟨ownN w ω q, ⟨⟨?_, ?_, ?_, ?_, ?_, ?_, ?_, hB.tab.same h0k, hB.wb10, hB.bn2, hB.bl4, hB.sl4, hB.bk, hB.sk⟩, ?_, h.ap, ?_, ?_, ?_, ?_, h.sg.same hsz (h0k 0 (by omega)), Nat.le_trans h.NL hsz, ?_, fl_own h.fl h.NL, (h.frame hk1 (fun k hs => by rw [hP.po k (hS1 k hs)]; omega)).trans ⟨hk2.os, hk2.tape, hk2.output, hk2.size, fun k hN => hk2.block k (Nat.lt_of_lt_of_le hN (Nat.le_trans h.NL hk1.size)) (fun hs => by have := h.fl k (by rw [hP.qo k (hS2 k hs)]; omega); omega)⟩⟩, fun k hk => ?_, fun k hk => ownN_old hk⟩
  · exact (hx1 _ hwl (h.o1 _ (.inl rfl))).trans hB.blk
  · exact ownsRow_of_block hB.bs (fun k hk hv => hx1 k hk (h.o1 k (.inr (.inr (.inl hv)))))
  · exact ownsRow_of_block hB.kb (fun k hk hv => hx1 k hk (h.o1 k (.inr (.inr (.inr (.inl hv))))))
  · exact ownsRow_of_block hB.ss (fun k hk hv => hx1 k hk (h.o1 k (.inr (.inr (.inr (.inr (.inl hv)))))))
  · exact ownsRow_of_block hB.ks (fun k hk hv => hx1 k hk (h.o1 k (.inr (.inr (.inr (.inr (.inr hv)))))))
  · exact fun e he => (hB.rd e he).same hsz (fun k hk hv => hx2 k hk (h.o2 e (List.mem_append_left _ he) k hv))
  · exact fun e he => (hB.rs e he).same hsz (fun k hk hv => hx2 k hk (h.o2 e (List.mem_append_right _ he) k hv))
  · show w2.ownsRow N 159 4 s.vl (s.ps.set i p').length ((s.ps.set i p').flatMap prC)
    have e : (s.ps.set i p').flatMap prC = s.ps.flatMap prC := by
      rw [← List.map_id (s.ps.flatMap prC)]
      simp only [List.flatMap_def, List.map_id]
      congr 1
      rw [List.map_set, hpr]
      apply List.ext_getElem?
      intro j
      rw [List.getElem?_set]
      split
      · rename_i hj
        subst hj
        simp [hi, hp]
        exact congrArg prC (List.getElem?_eq_some_iff.1 hp).2.symm
      · rfl
    rw [e, List.length_set]
    exact ownsRow_of_block h.lr (fun k hk hv => hx1 k hk (h.o1 k (.inr (.inl hv))))
  · intro k hk
    have hlt : k < w.heap.size := by
      rcases hk with rfl | hk | hk | hk | hk | hk
      · exact hwl
      · exact (h.lr.lt k hk).2
      · exact (hB.bs.lt k hk).2
      · exact (hB.kb.lt k hk).2
      · exact (hB.ss.lt k hk).2
      · exact (hB.ks.lt k hk).2
    rw [ownN_old hlt]
    exact h.o1 k hk
  · intro e he k hk
    have hlt : k < w.heap.size := by
      rcases List.mem_append.1 he with he | he
      · obtain ⟨c, hc⟩ := (hB.rd e he).type hk; exact (Array.getElem?_eq_some_iff.1 hc).1
      · obtain ⟨c, hc⟩ := (hB.rs e he).type hk; exact (Array.getElem?_eq_some_iff.1 hc).1
    rw [ownN_old hlt]
    exact h.o2 e he k hk
  · intro j p2 hp2
    have hp2 : (s.ps.set i p')[j]? = some p2 := hp2
    by_cases hj : i = j
    · subst hj
      rw [List.getElem?_set_self hi] at hp2
      cases hp2
      refine ⟨hc2, hr2, fun k hk => ?_, fun k hk => ?_, hl⟩
      · rcases hf1 k hk with e | e
        · rw [ownN_old (hP.lt (.inl e))]; exact hP.po k e
        · rw [ownN_new e]; exact if_pos hk
      · rcases hf2 k hk with e | e
        · rw [ownN_old (hP.lt (.inr e))]; exact hP.qo k e
        · rw [ownN_new (Nat.le_trans hk1.size e)]
          refine (if_neg (fun hc => ?_)).trans (if_neg (fun hc => ?_))
          · have := cfoot_lt hc1 hc; omega
          · have := hsv k hc; omega
    · rw [List.getElem?_set_ne hj] at hp2
      have hQ := h.pr j p2 hp2
      refine ⟨hQ.pr.same hsz (fun k hk hf => hold k hk (by rw [hQ.po k hf]; omega) (by rw [hQ.po k hf]; omega)), hQ.rf.same hsz (fun k hk hf => hold k hk (by rw [hQ.qo k hf]; omega) (by rw [hQ.qo k hf]; omega)), fun k hk => ?_, fun k hk => ?_, hQ.lk⟩
      · rw [ownN_old (hQ.lt (.inl hk))]; exact hQ.po k hk
      · rw [ownN_old (hQ.lt (.inr hk))]; exact hQ.qo k hk
  · intro k hk
    rw [ownN_old (by omega)]
    exact h.g0 k hk
  · show (s.ps.set i p').length ≤ s.bn
    rw [List.length_set]
    exact h.pn
  · obtain ⟨a1, a2, a3⟩ := hsv k hk
    rw [ownN_new a1]
    exact (if_neg a3).trans (if_pos hk)
end
end Go.Proofs.YtjmcokcdaddpcaaGreatDoor
set_option linter.unusedVariables false
set_option linter.unusedSimpArgs false
namespace Go.Proofs.YtjmcokcdaddpcaaGreatDoor
open Go.RowKit
theorem flat_set : ∀ (ps : List PSt) (i : Nat) (p p' : PSt) (j : Nat) (v : Value), ps[i]? = some p → j < 4 → prC p' = (prC p).set j v → (ps.flatMap prC).set (i * 4 + j) v = (ps.set i p').flatMap prC
  | [], i, p, p', j, v, h, _, _ => by simp at h
  | q :: ps, 0, p, p', j, v, h, hj, hpr => by
    simp at h
    subst h
    rw [List.set_cons_zero, List.flatMap_cons, List.flatMap_cons, hpr, Nat.zero_mul, Nat.zero_add, List.set_append_left _ _ (by simp [prC]; exact hj)]
  | q :: ps, i + 1, p, p', j, v, h, hj, hpr => by
    have ih := flat_set ps i p p' j v (by simpa using h) hj hpr
    rw [List.set_cons_succ, List.flatMap_cons, List.flatMap_cons, ← ih, List.set_append_right _ _ (by simp [prC]; omega)]
    congr 2
    simp [prC]
    omega
section
variable {wz : World} {N : Nat} {w : World} {ω : Nat → Nat} {s : WS}
/-- A field of a pair has been written. -/
theorem inv_put (h : WInv wz N w ω s) {i j gl cl : Nat} {p p' : PSt} {v : Value} (hp : s.ps[i]? = some p) (hvl : s.vl = .slice (some ⟨gl, 0, none⟩) s.ps.length cl) (hj : j < 4) (hpr : prC p' = (prC p).set j v) (hcs : p'.M = p.M ∧ p'.cb = p.cb ∧ p'.c = p.c ∧ p'.a = p.a ∧ p'.wk = p.wk) (hr : RefAt w p') (hq : ∀ k, QFoot p' k → ω k = 4 + 2 * i) (hl : Lnk p'.c p'.rc) :
    WInv wz N (w.setCell ⟨gl, i * 4 + j, none⟩ v) ω { s with ps := s.ps.set i p' } := by
  have hi : i < s.ps.length := (List.getElem?_eq_some_iff.1 hp).1
  have hP := h.pr i p hp
  have hB := h.bk
  have hlr := h.lr
  rw [hvl] at hlr
  have hst := hlr.stored (i * 4 + j) v
  have hgl1 : ω gl = 1 := h.o1 gl (.inr (.inl (by rw [hvl]; rfl)))
  have hgT : ∃ cur, w.heap[gl]? = some (.cells cur 159 (0, 0)) := own_type hlr rfl
  obtain ⟨cur, hgc⟩ := hgT
  have hoth : ∀ k, k ≠ gl → (w.setCell ⟨gl, i * 4 + j, none⟩ v).heap[k]? = w.heap[k]? := fun k hk => heap_setCell_other _ _ _ _ hk
  have hsz : (w.setCell ⟨gl, i * 4 + j, none⟩ v).heap.size = w.heap.size := by simp [World.setCell]
  have hT : ∀ {k : Nat} {T : TypeId} {c : Array Value}, w.heap[k]? = some (.cells c T (0, 0)) → T ≠ 159 → k ≠ gl := fun hc ht e => by
    subst e
    exact ht (cells_type hc hgc)
  have hrow : ∀ {v' : Value} {n : Nat} {T : TypeId} {xs : List Value}, w.ownsRow N T 1 v' n xs → T ≠ 159 → (w.setCell ⟨gl, i * 4 + j, none⟩ v).ownsRow N T 1 v' n xs := fun hv ht => ownsRow_of_block hv (fun k hk hvk => by
    obtain ⟨c, hc⟩ := own_type hv hvk
    exact hoth k (hT hc ht))
  have h10 := hB.wb10
  have hgl10 : 5 ≤ gl := by
    rcases Nat.lt_or_ge gl 5 with e | e
    · have := h.g0 gl e; omega
    · exact e
  refine ⟨⟨(hoth _ (hT hB.blk (by decide))).trans hB.blk, hrow hB.bs (by decide), hrow hB.kb (by decide), hrow hB.ss (by decide), hrow hB.ks (by decide), ?_, ?_, hB.tab.same (fun x hx => hoth x (by omega)), hB.wb10, hB.bn2, hB.bl4, hB.sl4, hB.bk, hB.sk⟩, ?_, h.ap, h.o1, h.o2, ?_, h.g0, h.sg.same (by rw [hsz]; exact Nat.le_refl _) (hoth 0 (by omega)), by rw [hsz]; exact h.NL, by show (s.ps.set i p').length ≤ s.bn; rw [List.length_set]; exact h.pn, h.fl, h.fr.trans ⟨rfl, rfl, rfl, by rw [hsz]; exact Nat.le_refl _, fun k hN => hoth k (fun e => by have := h.fl gl (by rw [hgl1]; decide); omega)⟩⟩
  · exact fun e he => (hB.rd e he).same (by rw [hsz]; exact Nat.le_refl _) (fun k hk hv => by
      obtain ⟨c, hc⟩ := (hB.rd e he).type hv
      exact hoth k (hT hc (by decide)))
  · exact fun e he => (hB.rs e he).same (by rw [hsz]; exact Nat.le_refl _) (fun k hk hv => by
      obtain ⟨c, hc⟩ := (hB.rs e he).type hv
      exact hoth k (hT hc (by decide)))
  · show (w.setCell ⟨gl, i * 4 + j, none⟩ v).ownsRow N 159 4 s.vl (s.ps.set i p').length ((s.ps.set i p').flatMap prC)
    rw [List.length_set, ← flat_set s.ps i p p' j v hp hj hpr, hvl]
    exact hst.1
  · intro m p2 hp2
    have hp2 : (s.ps.set i p')[m]? = some p2 := hp2
    by_cases hm : i = m
    · subst hm
      rw [List.getElem?_set_self hi] at hp2
      cases hp2
      obtain ⟨c1, c2, c3, c4, c5⟩ := hcs
      have hpf : ∀ k, PFoot p' k → PFoot p k := fun k hk => by
        show CFoot p.c p.a p.cb p.wk k
        rw [← c3, ← c4, ← c2, ← c5]
        exact hk
      refine ⟨?_, hr.same (by rw [hsz]; exact Nat.le_refl _) (fun k hk hf => hoth k (fun e => by have := hq k hf; rw [e, hgl1] at this; omega)), fun k hk => hP.po k (hpf k hk), hq, hl⟩
      rw [c1, c2, c3, c4, c5]
      exact hP.pr.same (by rw [hsz]; exact Nat.le_refl _) (fun k hk hf => hoth k (fun e => by have := hP.po k hf; rw [e, hgl1] at this; omega))
    · rw [List.getElem?_set_ne hm] at hp2
      have hQ := h.pr m p2 hp2
      exact ⟨hQ.pr.same (by rw [hsz]; exact Nat.le_refl _) (fun k hk hf => hoth k (fun e => by have := hQ.po k hf; rw [e, hgl1] at this; omega)), hQ.rf.same (by rw [hsz]; exact Nat.le_refl _) (fun k hk hf => hoth k (fun e => by have := hQ.qo k hf; rw [e, hgl1] at this; omega)), hQ.po, hQ.qo, hQ.lk⟩
end
theorem pr_at {w : World} {N g c n : Nat} {ps : List PSt} (h : w.ownsRow N 159 4 (.slice (some ⟨g, 0, none⟩) n c) n (ps.flatMap prC)) {i : Nat} {p : PSt} (hp : ps[i]? = some p) :
    w.cell? ⟨g, i * 4, none⟩ = some (ptr p.cb) ∧ w.cell? ⟨g, i * 4 + 1, none⟩ = some (ptr p.rb) ∧ w.cell? ⟨g, i * 4 + 2, none⟩ = some p.vlog ∧ w.cell? ⟨g, i * 4 + 3, none⟩ = some p.vb ∧ g < w.heap.size := by
  have e := fun j hj => flatM2 4 prC (fun _ => rfl) ps i p j hp hj
  have e0 := own_at h ((e 0 (by omega)).trans rfl)
  exact ⟨e0, own_at h ((e 1 (by omega)).trans rfl), own_at h ((e 2 (by omega)).trans rfl), own_at h ((e 3 (by omega)).trans rfl), World.block_lt_of_cell? _ _ e0⟩
end Go.Proofs.YtjmcokcdaddpcaaGreatDoor
set_option linter.unusedVariables false
set_option linter.unusedSimpArgs false
namespace Go.Proofs.YtjmcokcdaddpcaaGreatDoor
open Go.RowKit
theorem kp_after {S : Nat → Prop} {w wA w1 : World} (hb : Below w.heap.size w wA) (hk : Kp S wA w1) : Kp S w w1 :=
  ⟨hk.os.trans hb.os, hk.tape.trans hb.tape, hk.output.trans hb.output, Nat.le_trans hb.size hk.size, fun k h1 h2 => (hk.block k (Nat.lt_of_lt_of_le h1 hb.size) h2).trans (hb.block k h1)⟩
theorem ask_es (c : Dsr.Cs) (r e : List UInt8) : (Dsr.askP c r e).2.2.2.es = c.es ∧ (Dsr.askP c r e).2.2.2.rs = c.rs := by
  unfold Dsr.askP
  split
  · exact ⟨rfl, rfl⟩
  · split
    · exact ⟨rfl, rfl⟩
    · split <;> exact ⟨rfl, rfl⟩
theorem askQ_reqs (c : RC) (r e : List UInt8) : (askQ c r e).2.2.2.reqs = c.reqs := by
  unfold askQ
  split
  · rfl
  · split
    · rfl
    · split <;> rfl
theorem settleQ_reqs (c : RC) : c.reqs.length ≤ (settleQ c).2.reqs.length := by
  unfold settleQ
  split
  · exact Nat.le_refl _
  · simp
theorem settleQ_bytes (c : RC) : (settleQ c).2.bytes = [] := by
  unfold settleQ
  split
  · rename_i h
    exact List.length_eq_zero_iff.1 h
  · rfl
/-- Bytes that the document's call leaves alone. -/
theorem ref_bytes {R : Nat} {w1 w2 : World} {rb : Nat} {rc : RC} {ra : RA} {v : Value} {bs : List UInt8} (hrc : RcAt R w1 rb rc ra) (hk : Kp (RWr ra rb) w1 w2) (hb : BOwn 0 w1 v bs) : BOwn 0 w2 v bs := hb.block (fun k hlt hv => hk.block k hlt (fun hS => by
  obtain ⟨c, hc⟩ := own_type hb hv
  rcases hS with rfl | hS
  · exact absurd (cells_type hc hrc.blk) (by decide)
  · obtain ⟨c2, h2⟩ := own_type hrc.rq hS
    exact absurd (cells_type hc h2) (by decide)))
section
variable {wz : World} {N : Nat} {w wA w1 w2 : World} {ω : Nat → Nat} {s : WS}
theorem ref_mid (h : WInv wz N w ω s) {i : Nat} {p : PSt} (hp : s.ps[i]? = some p) (hwA : Below w.heap.size w wA) {S : Nat → Prop} (hk : Kp S wA w1) (hS : ∀ k, S k → PFoot p k) : RefAt w1 p :=
  (h.pr i p hp).ref (o := 3 + 2 * i) (Chg.of (kp_after hwA hk) (fun k hk => (h.pr i p hp).po k (hS k hk))) (by omega)
/-- Both have been asked. -/
theorem inv_ask (h : WInv wz N w ω s) (b : Bool) {i : Nat} {p : PSt} (hp : s.ps[i]? = some p) (hwA : Below w.heap.size w wA) (role ev : List UInt8) {v1 : Value} {a' : RA} (hA : AskS p.M wA w1 p.cb (Dsr.askP p.c role ev).2.2.2 p.a p.wk v1 (Dsr.askP p.c role ev).2.1) (hR : RStep p.R w1 w2 p.rb p.rc p.ra (askQ p.rc role ev).2.2.2 a') (hb : b = false → (askQ p.rc role ev).2.2.2.bytes ≠ [] → p.pb = (askQ p.rc role ev).2.2.2.bytes) :
    ∃ ω' p', WInv wz N w2 ω' { s with ps := s.ps.set i p' } ∧ (∀ k, v1.ownBlock = some k → ω' k = 2 ∧ w.heap.size ≤ k) ∧ (p'.cb = p.cb ∧ p'.rb = p.rb ∧ p'.vlog = p.vlog ∧ p'.vb = p.vb ∧ p'.pb = p.pb ∧ p'.rc = (askQ p.rc role ev).2.2.2 ∧ p'.ra = a' ∧ p'.R = p.R ∧ p'.st = b) ∧ ∀ k, k < w.heap.size → ω' k = ω k := by
  obtain ⟨wk', hcs, hwk⟩ := hA.cs
  have hP := h.pr i p hp
  have hk1 := kp_after hwA hA.kp
  have hS1 : ∀ k, k = p.cb → PFoot p k := fun k hk => .inl hk
  have hr1 : RefAt w1 p := ref_mid h hp hwA hA.kp hS1
  have hfoot : ∀ k, CFoot (Dsr.askP p.c role ev).2.2.2 p.a p.cb wk' k → PFoot p k ∨ w.heap.size ≤ k := fun k hk => by
    rcases hk with hk | hk | hk
    · exact .inl (.inl hk)
    · rcases hwk k hk with e | e
      · exact .inl (.inr (.inl e))
      · exact .inr (Nat.le_trans hwA.size e)
    · rw [(ask_es _ _ _).1, (ask_es _ _ _).2] at hk
      exact .inl (.inr (.inr hk))
  obtain ⟨ω', hW, ho, hω⟩ := inv_both h hp (p' := { p with c := (Dsr.askP p.c role ev).2.2.2, wk := wk', rc := (askQ p.rc role ev).2.2.2, ra := a', st := b }) hk1 hS1 hcs hfoot hR.kp (fun k hk => by
      rcases hk with hk | hk
      · exact .inl (.inl hk)
      · exact .inl (.inr (.inr (.inl hk)))) ⟨hR.rc, (let ⟨lg, h1, h2, h3⟩ := hr1.lg; ⟨lg, ref_bytes hr1.rc hR.kp h1, h2, by show lg.length ≤ 3000 + 100 * (askQ p.rc role ev).2.2.2.reqs.length; rw [askQ_reqs]; exact h3⟩), ref_bytes hr1.rc hR.kp hr1.pb, hr1.pl, hb⟩ (fun k hk => by
      rcases hk with hk | hk | hk
      · rcases hR.foot k hk with e | e
        · exact .inl (.inl e)
        · exact .inr e
      · exact .inl (.inr (.inl hk))
      · exact .inl (.inr (.inr hk))) (hP.lk.ask role ev).2.2.2 rfl (sv := v1) (fun k hk => by
      have hlt := World.ownsRow.lt hA.own k hk
      refine ⟨Nat.le_trans hwA.size hlt.1, hlt.2, fun hc => ?_⟩
      rcases hc with hc | hc | hc
      · have := hP.pr.lt; have := hwA.size; have hc : k = p.cb := hc; omega
      · exact hA.apart k hk wk' hcs hc
      · have hc : Foot (Dsr.askP p.c role ev).2.2.2.es (Dsr.askP p.c role ev).2.2.2.rs p.a k := hc
        rw [(ask_es _ _ _).1, (ask_es _ _ _).2] at hc
        have := cfoot_lt hP.pr (.inr (.inr hc))
        have := hwA.size
        omega)
  refine ⟨ω', _, hW, fun k hk => ⟨ho k hk, Nat.le_trans hwA.size (World.ownsRow.lt hA.own k hk).1⟩, ⟨rfl, rfl, rfl, rfl, rfl, rfl, rfl, rfl, rfl⟩, hω⟩
/-- Both have settled. -/
theorem inv_settle (h : WInv wz N w ω s) {i : Nat} {p : PSt} (hp : s.ps[i]? = some p) (hwA : Below w.heap.size w wA) {a' : RA} (hc : CsAt p.M w1 p.cb (Dsr.settleP p.c).2 p.a none) (hk : Kp (fun k => k = p.cb ∨ k ∈ p.a.eb) wA w1) (hR : RStep p.R w1 w2 p.rb p.rc p.ra (settleQ p.rc).2 a') :
    ∃ ω' p', WInv wz N w2 ω' { s with ps := s.ps.set i p' } ∧ (p'.cb = p.cb ∧ p'.rb = p.rb ∧ p'.vlog = p.vlog ∧ p'.vb = p.vb ∧ p'.pb = p.pb ∧ p'.rc = (settleQ p.rc).2 ∧ p'.st = false) := by
  have hP := h.pr i p hp
  have hk1 := kp_after hwA hk
  have hS1 : ∀ k, (k = p.cb ∨ k ∈ p.a.eb) → PFoot p k := fun k hk => by
    rcases hk with hk | hk
    · exact .inl hk
    · exact .inr (.inr (foot_iff.2 (.inr (.inl hk))))
  have hr1 : RefAt w1 p := ref_mid h hp hwA hk hS1
  have hfoot : ∀ k, CFoot (Dsr.settleP p.c).2 p.a p.cb none k → PFoot p k := fun k hk => by
    rcases hk with hk | hk | hk
    · exact .inl hk
    · cases hk
    · exact .inr (.inr (foot_iff.2 (foot_iff.1 hk)))
  obtain ⟨ω', hW, ho, hω⟩ := inv_both h hp (p' := { p with c := (Dsr.settleP p.c).2, wk := none, rc := (settleQ p.rc).2, ra := a', st := false }) hk1 hS1 hc (fun k hk => .inl (hfoot k hk)) hR.kp (fun k hk => by
      rcases hk with hk | hk
      · exact .inl (.inl hk)
      · exact .inl (.inr (.inr (.inl hk)))) ⟨hR.rc, (let ⟨lg, h1, h2, h3⟩ := hr1.lg; ⟨lg, ref_bytes hr1.rc hR.kp h1, h2, by show lg.length ≤ 3000 + 100 * (settleQ p.rc).2.reqs.length; have := settleQ_reqs p.rc; omega⟩), ref_bytes hr1.rc hR.kp hr1.pb, hr1.pl, fun _ hh => absurd (settleQ_bytes p.rc) hh⟩ (fun k hk => by
      rcases hk with hk | hk | hk
      · rcases hR.foot k hk with e | e
        · exact .inl (.inl e)
        · exact .inr e
      · exact .inl (.inr (.inl hk))
      · exact .inl (.inr (.inr hk))) hP.lk.settle.2 rfl (sv := .slice none 0 0) (fun k hk => by cases hk)
  exact ⟨ω', _, hW, rfl, rfl, rfl, rfl, rfl, rfl, rfl⟩
end
end Go.Proofs.YtjmcokcdaddpcaaGreatDoor
