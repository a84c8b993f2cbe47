import Derived.Test.YtjmcokcdaddpcaaGreatDoorUy
set_option linter.unusedVariables false
set_option linter.unusedSimpArgs false
namespace Go.Proofs.YtjmcokcdaddpcaaGreatDoor
open Go.RowKit
section
variable {wz : World} {N : Nat} {w w1 w2 : World} {ω : Nat → Nat} {s : WS}
/-- A call of a case, then the document's: the pair has gone on. -/
theorem inv_both (h : WInv wz N w ω s) {i : Nat} {p p' : PSt} (hp : s.ps[i]? = some p) {S1 S2 : Nat → Prop} (hk1 : Kp S1 w w1) (hS1 : ∀ k, S1 k → PFoot p k) (hc1 : CsAt p'.M w1 p'.cb p'.c p'.a p'.wk) (hf1 : ∀ k, PFoot p' k → PFoot p k ∨ w.heap.size ≤ k)
    (hk2 : Kp S2 w1 w2) (hS2 : ∀ k, S2 k → QFoot p k) (hr2 : RefAt w2 p') (hf2 : ∀ k, QFoot p' k → QFoot p k ∨ w1.heap.size ≤ k) (hl : Lnk p'.c p'.rc) (hpr : prC p' = prC p) {sv : Value} (hsv : ∀ k, sv.ownBlock = some k → w.heap.size ≤ k ∧ k < w1.heap.size ∧ ¬ PFoot p' k) :
    ∃ ω', WInv wz N w2 ω' { s with ps := s.ps.set i p' } ∧ (∀ k, sv.ownBlock = some k → ω' k = 2) ∧ ∀ k, k < w.heap.size → ω' k = ω k := by
  classical
  have hi : i < s.ps.length := (List.getElem?_eq_some_iff.1 hp).1
  have hP := h.pr i p hp
  have hB := h.bk
  have hwl : s.wb < w.heap.size := (Array.getElem?_eq_some_iff.1 hB.blk).1
  have h10 := hB.wb10
  let q : Nat → Nat := fun k => if PFoot p' k then 3 + 2 * i else if sv.ownBlock = some k then 2 else 4 + 2 * i
  -- old blocks of other owners
  have hold : ∀ k, k < w.heap.size → ω k ≠ 3 + 2 * i → ω k ≠ 4 + 2 * i → w2.heap[k]? = w.heap[k]? := fun k hk o1 o2 =>
    (hk2.block k (Nat.lt_of_lt_of_le hk hk1.size) (fun hs => o2 (hP.qo k (hS2 k hs)))).trans (hk1.block k hk (fun hs => o1 (hP.po k (hS1 k hs))))
  have hsz : w.heap.size ≤ w2.heap.size := Nat.le_trans hk1.size hk2.size
  have hx1 : ∀ k, k < w.heap.size → ω k = 1 → w2.heap[k]? = w.heap[k]? := fun k hk e => hold k hk (by omega) (by omega)
  have hx2 : ∀ k, k < w.heap.size → ω k = 2 → w2.heap[k]? = w.heap[k]? := fun k hk e => hold k hk (by omega) (by omega)
  have h0k : ∀ k, k < 5 → w2.heap[k]? = w.heap[k]? := fun k hk => hold k (by omega) (by rw [h.g0 k hk]; omega) (by rw [h.g0 k hk]; omega)
  have hc2 : CsAt p'.M w2 p'.cb p'.c p'.a p'.wk := hc1.same hk2.size (fun k hk hf => hk2.block k hk (fun hs => by
    have hq := hP.qo k (hS2 k hs)
    have hlt := hP.lt (.inr (hS2 k hs))
    rcases hf1 k hf with e | e
    · have := hP.po k e; omega
    · omega))
  refine ⟨ownN w ω q, ⟨⟨?_, ?_, ?_, ?_, ?_, ?_, ?_, hB.tab.same h0k, hB.wb10, hB.bn2, hB.bl4, hB.sl4, hB.bk, hB.sk⟩, ?_, h.ap, ?_, ?_, ?_, ?_, h.sg.same hsz (h0k 0 (by omega)), Nat.le_trans h.NL hsz, ?_, fl_own h.fl h.NL, (h.frame hk1 (fun k hs => by rw [hP.po k (hS1 k hs)]; omega)).trans ⟨hk2.os, hk2.tape, hk2.output, hk2.size, fun k hN => hk2.block k (Nat.lt_of_lt_of_le hN (Nat.le_trans h.NL hk1.size)) (fun hs => by have := h.fl k (by rw [hP.qo k (hS2 k hs)]; omega); omega)⟩⟩, fun k hk => ?_, fun k hk => ownN_old hk⟩
  · exact (hx1 _ hwl (h.o1 _ (.inl rfl))).trans hB.blk
  · exact ownsRow_of_block hB.bs (fun k hk hv => hx1 k hk (h.o1 k (.inr (.inr (.inl hv)))))
  · exact ownsRow_of_block hB.kb (fun k hk hv => hx1 k hk (h.o1 k (.inr (.inr (.inr (.inl hv))))))
  · exact ownsRow_of_block hB.ss (fun k hk hv => hx1 k hk (h.o1 k (.inr (.inr (.inr (.inr (.inl hv)))))))
  · exact ownsRow_of_block hB.ks (fun k hk hv => hx1 k hk (h.o1 k (.inr (.inr (.inr (.inr (.inr hv)))))))
  · exact fun e he => (hB.rd e he).same hsz (fun k hk hv => hx2 k hk (h.o2 e (List.mem_append_left _ he) k hv))
  · exact fun e he => (hB.rs e he).same hsz (fun k hk hv => hx2 k hk (h.o2 e (List.mem_append_right _ he) k hv))
  · show w2.ownsRow N 159 4 s.vl (s.ps.set i p').length ((s.ps.set i p').flatMap prC)
    have e : (s.ps.set i p').flatMap prC = s.ps.flatMap prC := by
      rw [← List.map_id (s.ps.flatMap prC)]
      simp only [List.flatMap_def, List.map_id]
      congr 1
      rw [List.map_set, hpr]
      apply List.ext_getElem?
      intro j
      rw [List.getElem?_set]
      split
      · rename_i hj
        subst hj
        simp [hi, hp]
        exact congrArg prC (List.getElem?_eq_some_iff.1 hp).2.symm
      · rfl
    rw [e, List.length_set]
    exact ownsRow_of_block h.lr (fun k hk hv => hx1 k hk (h.o1 k (.inr (.inl hv))))
  · intro k hk
    have hlt : k < w.heap.size := by
      rcases hk with rfl | hk | hk | hk | hk | hk
      · exact hwl
      · exact (h.lr.lt k hk).2
      · exact (hB.bs.lt k hk).2
      · exact (hB.kb.lt k hk).2
      · exact (hB.ss.lt k hk).2
      · exact (hB.ks.lt k hk).2
    rw [ownN_old hlt]
    exact h.o1 k hk
  · intro e he k hk
    have hlt : k < w.heap.size := by
      rcases List.mem_append.1 he with he | he
      · obtain ⟨c, hc⟩ := (hB.rd e he).type hk; exact (Array.getElem?_eq_some_iff.1 hc).1
      · obtain ⟨c, hc⟩ := (hB.rs e he).type hk; exact (Array.getElem?_eq_some_iff.1 hc).1
    rw [ownN_old hlt]
    exact h.o2 e he k hk
  · intro j p2 hp2
    have hp2 : (s.ps.set i p')[j]? = some p2 := hp2
    by_cases hj : i = j
    · subst hj
      rw [List.getElem?_set_self hi] at hp2
      cases hp2
      refine ⟨hc2, hr2, fun k hk => ?_, fun k hk => ?_, hl⟩
      · rcases hf1 k hk with e | e
        · rw [ownN_old (hP.lt (.inl e))]; exact hP.po k e
        · rw [ownN_new e]; exact if_pos hk
      · rcases hf2 k hk with e | e
        · rw [ownN_old (hP.lt (.inr e))]; exact hP.qo k e
        · rw [ownN_new (Nat.le_trans hk1.size e)]
          refine (if_neg (fun hc => ?_)).trans (if_neg (fun hc => ?_))
          · have := cfoot_lt hc1 hc; omega
          · have := hsv k hc; omega
    · rw [List.getElem?_set_ne hj] at hp2
      have hQ := h.pr j p2 hp2
      refine ⟨hQ.pr.same hsz (fun k hk hf => hold k hk (by rw [hQ.po k hf]; omega) (by rw [hQ.po k hf]; omega)), hQ.rf.same hsz (fun k hk hf => hold k hk (by rw [hQ.qo k hf]; omega) (by rw [hQ.qo k hf]; omega)), fun k hk => ?_, fun k hk => ?_, hQ.lk⟩
      · rw [ownN_old (hQ.lt (.inl hk))]; exact hQ.po k hk
      · rw [ownN_old (hQ.lt (.inr hk))]; exact hQ.qo k hk
  · intro k hk
    rw [ownN_old (by omega)]
    exact h.g0 k hk
  · show (s.ps.set i p').length ≤ s.bn
    rw [List.length_set]
    exact h.pn
  · obtain ⟨a1, a2, a3⟩ := hsv k hk
    rw [ownN_new a1]
    exact (if_neg a3).trans (if_pos hk)
end
end Go.Proofs.YtjmcokcdaddpcaaGreatDoor
set_option linter.unusedVariables false
set_option linter.unusedSimpArgs false
namespace Go.Proofs.YtjmcokcdaddpcaaGreatDoor
open Go.RowKit
theorem flat_set : ∀ (ps : List PSt) (i : Nat) (p p' : PSt) (j : Nat) (v : Value), ps[i]? = some p → j < 4 → prC p' = (prC p).set j v → (ps.flatMap prC).set (i * 4 + j) v = (ps.set i p').flatMap prC
  | [], i, p, p', j, v, h, _, _ => by simp at h
  | q :: ps, 0, p, p', j, v, h, hj, hpr => by
    simp at h
    subst h
    rw [List.set_cons_zero, List.flatMap_cons, List.flatMap_cons, hpr, Nat.zero_mul, Nat.zero_add, List.set_append_left _ _ (by simp [prC]; exact hj)]
  | q :: ps, i + 1, p, p', j, v, h, hj, hpr => by
    have ih := flat_set ps i p p' j v (by simpa using h) hj hpr
    rw [List.set_cons_succ, List.flatMap_cons, List.flatMap_cons, ← ih, List.set_append_right _ _ (by simp [prC]; omega)]
    congr 2
    simp [prC]
    omega
section
variable {wz : World} {N : Nat} {w : World} {ω : Nat → Nat} {s : WS}
/-- A field of a pair has been written. -/
theorem inv_put (h : WInv wz N w ω s) {i j gl cl : Nat} {p p' : PSt} {v : Value} (hp : s.ps[i]? = some p) (hvl : s.vl = .slice (some ⟨gl, 0, none⟩) s.ps.length cl) (hj : j < 4) (hpr : prC p' = (prC p).set j v) (hcs : p'.M = p.M ∧ p'.cb = p.cb ∧ p'.c = p.c ∧ p'.a = p.a ∧ p'.wk = p.wk) (hr : RefAt w p') (hq : ∀ k, QFoot p' k → ω k = 4 + 2 * i) (hl : Lnk p'.c p'.rc) :
    WInv wz N (w.setCell ⟨gl, i * 4 + j, none⟩ v) ω { s with ps := s.ps.set i p' } := by
  have hi : i < s.ps.length := (List.getElem?_eq_some_iff.1 hp).1
  have hP := h.pr i p hp
  have hB := h.bk
  have hlr := h.lr
  rw [hvl] at hlr
  have hst := hlr.stored (i * 4 + j) v
  have hgl1 : ω gl = 1 := h.o1 gl (.inr (.inl (by rw [hvl]; rfl)))
  have hgT : ∃ cur, w.heap[gl]? = some (.cells cur 159 (0, 0)) := own_type hlr rfl
  obtain ⟨cur, hgc⟩ := hgT
  have hoth : ∀ k, k ≠ gl → (w.setCell ⟨gl, i * 4 + j, none⟩ v).heap[k]? = w.heap[k]? := fun k hk => heap_setCell_other _ _ _ _ hk
  have hsz : (w.setCell ⟨gl, i * 4 + j, none⟩ v).heap.size = w.heap.size := by simp [World.setCell]
  have hT : ∀ {k : Nat} {T : TypeId} {c : Array Value}, w.heap[k]? = some (.cells c T (0, 0)) → T ≠ 159 → k ≠ gl := fun hc ht e => by
    subst e
    exact ht (cells_type hc hgc)
  have hrow : ∀ {v' : Value} {n : Nat} {T : TypeId} {xs : List Value}, w.ownsRow N T 1 v' n xs → T ≠ 159 → (w.setCell ⟨gl, i * 4 + j, none⟩ v).ownsRow N T 1 v' n xs := fun hv ht => ownsRow_of_block hv (fun k hk hvk => by
    obtain ⟨c, hc⟩ := own_type hv hvk
    exact hoth k (hT hc ht))
  have h10 := hB.wb10
  have hgl10 : 5 ≤ gl := by
    rcases Nat.lt_or_ge gl 5 with e | e
    · have := h.g0 gl e; omega
    · exact e
  refine ⟨⟨(hoth _ (hT hB.blk (by decide))).trans hB.blk, hrow hB.bs (by decide), hrow hB.kb (by decide), hrow hB.ss (by decide), hrow hB.ks (by decide), ?_, ?_, hB.tab.same (fun x hx => hoth x (by omega)), hB.wb10, hB.bn2, hB.bl4, hB.sl4, hB.bk, hB.sk⟩, ?_, h.ap, h.o1, h.o2, ?_, h.g0, h.sg.same (by rw [hsz]; exact Nat.le_refl _) (hoth 0 (by omega)), by rw [hsz]; exact h.NL, by show (s.ps.set i p').length ≤ s.bn; rw [List.length_set]; exact h.pn, h.fl, h.fr.trans ⟨rfl, rfl, rfl, by rw [hsz]; exact Nat.le_refl _, fun k hN => hoth k (fun e => by have := h.fl gl (by rw [hgl1]; decide); omega)⟩⟩
  · exact fun e he => (hB.rd e he).same (by rw [hsz]; exact Nat.le_refl _) (fun k hk hv => by
      obtain ⟨c, hc⟩ := (hB.rd e he).type hv
      exact hoth k (hT hc (by decide)))
  · exact fun e he => (hB.rs e he).same (by rw [hsz]; exact Nat.le_refl _) (fun k hk hv => by
      obtain ⟨c, hc⟩ := (hB.rs e he).type hv
      exact hoth k (hT hc (by decide)))
  · show (w.setCell ⟨gl, i * 4 + j, none⟩ v).ownsRow N 159 4 s.vl (s.ps.set i p').length ((s.ps.set i p').flatMap prC)
    rw [List.length_set, ← flat_set s.ps i p p' j v hp hj hpr, hvl]
    exact hst.1
  · intro m p2 hp2
    have hp2 : (s.ps.set i p')[m]? = some p2 := hp2
    by_cases hm : i = m
    · subst hm
      rw [List.getElem?_set_self hi] at hp2
      cases hp2
      obtain ⟨c1, c2, c3, c4, c5⟩ := hcs
      have hpf : ∀ k, PFoot p' k → PFoot p k := fun k hk => by
        show CFoot p.c p.a p.cb p.wk k
        rw [← c3, ← c4, ← c2, ← c5]
        exact hk
      refine ⟨?_, hr.same (by rw [hsz]; exact Nat.le_refl _) (fun k hk hf => hoth k (fun e => by have := hq k hf; rw [e, hgl1] at this; omega)), fun k hk => hP.po k (hpf k hk), hq, hl⟩
      rw [c1, c2, c3, c4, c5]
      exact hP.pr.same (by rw [hsz]; exact Nat.le_refl _) (fun k hk hf => hoth k (fun e => by have := hP.po k hf; rw [e, hgl1] at this; omega))
    · rw [List.getElem?_set_ne hm] at hp2
      have hQ := h.pr m p2 hp2
      exact ⟨hQ.pr.same (by rw [hsz]; exact Nat.le_refl _) (fun k hk hf => hoth k (fun e => by have := hQ.po k hf; rw [e, hgl1] at this; omega)), hQ.rf.same (by rw [hsz]; exact Nat.le_refl _) (fun k hk hf => hoth k (fun e => by have := hQ.qo k hf; rw [e, hgl1] at this; omega)), hQ.po, hQ.qo, hQ.lk⟩
end
theorem pr_at {w : World} {N g c n : Nat} {ps : List PSt} (h : w.ownsRow N 159 4 (.slice (some ⟨g, 0, none⟩) n c) n (ps.flatMap prC)) {i : Nat} {p : PSt} (hp : ps[i]? = some p) :
    w.cell? ⟨g, i * 4, none⟩ = some (ptr p.cb) ∧ w.cell? ⟨g, i * 4 + 1, none⟩ = some (ptr p.rb) ∧ w.cell? ⟨g, i * 4 + 2, none⟩ = some p.vlog ∧ w.cell? ⟨g, i * 4 + 3, none⟩ = some p.vb ∧ g < w.heap.size := by
  have e := fun j hj => flatM2 4 prC (fun _ => rfl) ps i p j hp hj
  have e0 := own_at h ((e 0 (by omega)).trans rfl)
  exact ⟨e0, own_at h ((e 1 (by omega)).trans rfl), own_at h ((e 2 (by omega)).trans rfl), own_at h ((e 3 (by omega)).trans rfl), World.block_lt_of_cell? _ _ e0⟩
end Go.Proofs.YtjmcokcdaddpcaaGreatDoor
set_option linter.unusedVariables false
set_option linter.unusedSimpArgs false
namespace Go.Proofs.YtjmcokcdaddpcaaGreatDoor
open Go.RowKit
theorem kp_after {S : Nat → Prop} {w wA w1 : World} (hb : Below w.heap.size w wA) (hk : Kp S wA w1) : Kp S w w1 :=
  ⟨hk.os.trans hb.os, hk.tape.trans hb.tape, hk.output.trans hb.output, Nat.le_trans hb.size hk.size, fun k h1 h2 => (hk.block k (Nat.lt_of_lt_of_le h1 hb.size) h2).trans (hb.block k h1)⟩
theorem ask_es (c : Dsr.Cs) (r e : List UInt8) : (Dsr.askP c r e).2.2.2.es = c.es ∧ (Dsr.askP c r e).2.2.2.rs = c.rs := by
  unfold Dsr.askP
  split
  · exact ⟨rfl, rfl⟩
  · split
    · exact ⟨rfl, rfl⟩
    · split <;> exact ⟨rfl, rfl⟩
theorem askQ_reqs (c : RC) (r e : List UInt8) : (askQ c r e).2.2.2.reqs = c.reqs := by
  unfold askQ
  split
  · rfl
  · split
    · rfl
    · split <;> rfl
theorem settleQ_reqs (c : RC) : c.reqs.length ≤ (settleQ c).2.reqs.length := by
  unfold settleQ
  split
  · exact Nat.le_refl _
  · simp
theorem settleQ_bytes (c : RC) : (settleQ c).2.bytes = [] := by
  unfold settleQ
  split
  · rename_i h
    exact List.length_eq_zero_iff.1 h
  · rfl
/-- Bytes that the document's call leaves alone. -/
theorem ref_bytes {R : Nat} {w1 w2 : World} {rb : Nat} {rc : RC} {ra : RA} {v : Value} {bs : List UInt8} (hrc : RcAt R w1 rb rc ra) (hk : Kp (RWr ra rb) w1 w2) (hb : BOwn 0 w1 v bs) : BOwn 0 w2 v bs := hb.block (fun k hlt hv => hk.block k hlt (fun hS => by
  obtain ⟨c, hc⟩ := own_type hb hv
  rcases hS with rfl | hS
  · exact absurd (cells_type hc hrc.blk) (by decide)
  · obtain ⟨c2, h2⟩ := own_type hrc.rq hS
    exact absurd (cells_type hc h2) (by decide)))
section
variable {wz : World} {N : Nat} {w wA w1 w2 : World} {ω : Nat → Nat} {s : WS}
theorem ref_mid (h : WInv wz N w ω s) {i : Nat} {p : PSt} (hp : s.ps[i]? = some p) (hwA : Below w.heap.size w wA) {S : Nat → Prop} (hk : Kp S wA w1) (hS : ∀ k, S k → PFoot p k) : RefAt w1 p :=
  (h.pr i p hp).ref (o := 3 + 2 * i) (Chg.of (kp_after hwA hk) (fun k hk => (h.pr i p hp).po k (hS k hk))) (by omega)
/-- Both have been asked. -/
theorem inv_ask (h : WInv wz N w ω s) (b : Bool) {i : Nat} {p : PSt} (hp : s.ps[i]? = some p) (hwA : Below w.heap.size w wA) (role ev : List UInt8) {v1 : Value} {a' : RA} (hA : AskS p.M wA w1 p.cb (Dsr.askP p.c role ev).2.2.2 p.a p.wk v1 (Dsr.askP p.c role ev).2.1) (hR : RStep p.R w1 w2 p.rb p.rc p.ra (askQ p.rc role ev).2.2.2 a') (hb : b = false → (askQ p.rc role ev).2.2.2.bytes ≠ [] → p.pb = (askQ p.rc role ev).2.2.2.bytes) :
    ∃ ω' p', WInv wz N w2 ω' { s with ps := s.ps.set i p' } ∧ (∀ k, v1.ownBlock = some k → ω' k = 2 ∧ w.heap.size ≤ k) ∧ (p'.cb = p.cb ∧ p'.rb = p.rb ∧ p'.vlog = p.vlog ∧ p'.vb = p.vb ∧ p'.pb = p.pb ∧ p'.rc = (askQ p.rc role ev).2.2.2 ∧ p'.ra = a' ∧ p'.R = p.R ∧ p'.st = b) ∧ ∀ k, k < w.heap.size → ω' k = ω k := by
  obtain ⟨wk', hcs, hwk⟩ := hA.cs
  have hP := h.pr i p hp
  have hk1 := kp_after hwA hA.kp
  have hS1 : ∀ k, k = p.cb → PFoot p k := fun k hk => .inl hk
  have hr1 : RefAt w1 p := ref_mid h hp hwA hA.kp hS1
  have hfoot : ∀ k, CFoot (Dsr.askP p.c role ev).2.2.2 p.a p.cb wk' k → PFoot p k ∨ w.heap.size ≤ k := fun k hk => by
    rcases hk with hk | hk | hk
    · exact .inl (.inl hk)
    · rcases hwk k hk with e | e
      · exact .inl (.inr (.inl e))
      · exact .inr (Nat.le_trans hwA.size e)
    · rw [(ask_es _ _ _).1, (ask_es _ _ _).2] at hk
      exact .inl (.inr (.inr hk))
  obtain ⟨ω', hW, ho, hω⟩ := inv_both h hp (p' := { p with c := (Dsr.askP p.c role ev).2.2.2, wk := wk', rc := (askQ p.rc role ev).2.2.2, ra := a', st := b }) hk1 hS1 hcs hfoot hR.kp (fun k hk => by
      rcases hk with hk | hk
      · exact .inl (.inl hk)
      · exact .inl (.inr (.inr (.inl hk)))) ⟨hR.rc, (let ⟨lg, h1, h2, h3⟩ := hr1.lg; ⟨lg, ref_bytes hr1.rc hR.kp h1, h2, by show lg.length ≤ 3000 + 100 * (askQ p.rc role ev).2.2.2.reqs.length; rw [askQ_reqs]; exact h3⟩), ref_bytes hr1.rc hR.kp hr1.pb, hr1.pl, hb⟩ (fun k hk => by
      rcases hk with hk | hk | hk
      · rcases hR.foot k hk with e | e
        · exact .inl (.inl e)
        · exact .inr e
      · exact .inl (.inr (.inl hk))
      · exact .inl (.inr (.inr hk))) (hP.lk.ask role ev).2.2.2 rfl (sv := v1) (fun k hk => by
      have hlt := World.ownsRow.lt hA.own k hk
      refine ⟨Nat.le_trans hwA.size hlt.1, hlt.2, fun hc => ?_⟩
      rcases hc with hc | hc | hc
      · have := hP.pr.lt; have := hwA.size; have hc : k = p.cb := hc; omega
      · exact hA.apart k hk wk' hcs hc
      · have hc : Foot (Dsr.askP p.c role ev).2.2.2.es (Dsr.askP p.c role ev).2.2.2.rs p.a k := hc
        rw [(ask_es _ _ _).1, (ask_es _ _ _).2] at hc
        have := cfoot_lt hP.pr (.inr (.inr hc))
        have := hwA.size
        omega)
  refine ⟨ω', _, hW, fun k hk => ⟨ho k hk, Nat.le_trans hwA.size (World.ownsRow.lt hA.own k hk).1⟩, ⟨rfl, rfl, rfl, rfl, rfl, rfl, rfl, rfl, rfl⟩, hω⟩
/-- Both have settled. -/
theorem inv_settle (h : WInv wz N w ω s) {i : Nat} {p : PSt} (hp : s.ps[i]? = some p) (hwA : Below w.heap.size w wA) {a' : RA} (hc : CsAt p.M w1 p.cb (Dsr.settleP p.c).2 p.a none) (hk : Kp (fun k => k = p.cb ∨ k ∈ p.a.eb) wA w1) (hR : RStep p.R w1 w2 p.rb p.rc p.ra (settleQ p.rc).2 a') :
    ∃ ω' p', WInv wz N w2 ω' { s with ps := s.ps.set i p' } ∧ (p'.cb = p.cb ∧ p'.rb = p.rb ∧ p'.vlog = p.vlog ∧ p'.vb = p.vb ∧ p'.pb = p.pb ∧ p'.rc = (settleQ p.rc).2 ∧ p'.st = false) := by
  have hP := h.pr i p hp
  have hk1 := kp_after hwA hk
  have hS1 : ∀ k, (k = p.cb ∨ k ∈ p.a.eb) → PFoot p k := fun k hk => by
    rcases hk with hk | hk
    · exact .inl hk
    · exact .inr (.inr (foot_iff.2 (.inr (.inl hk))))
  have hr1 : RefAt w1 p := ref_mid h hp hwA hk hS1
  have hfoot : ∀ k, CFoot (Dsr.settleP p.c).2 p.a p.cb none k → PFoot p k := fun k hk => by
    rcases hk with hk | hk | hk
    · exact .inl hk
    · cases hk
    · exact .inr (.inr (foot_iff.2 (foot_iff.1 hk)))
  obtain ⟨ω', hW, ho, hω⟩ := inv_both h hp (p' := { p with c := (Dsr.settleP p.c).2, wk := none, rc := (settleQ p.rc).2, ra := a', st := false }) hk1 hS1 hc (fun k hk => .inl (hfoot k hk)) hR.kp (fun k hk => by
      rcases hk with hk | hk
      · exact .inl (.inl hk)
      · exact .inl (.inr (.inr (.inl hk)))) ⟨hR.rc, (let ⟨lg, h1, h2, h3⟩ := hr1.lg; ⟨lg, ref_bytes hr1.rc hR.kp h1, h2, by show lg.length ≤ 3000 + 100 * (settleQ p.rc).2.reqs.length; have := settleQ_reqs p.rc; omega⟩), ref_bytes hr1.rc hR.kp hr1.pb, hr1.pl, fun _ hh => absurd (settleQ_bytes p.rc) hh⟩ (fun k hk => by
      rcases hk with hk | hk | hk
      · rcases hR.foot k hk with e | e
        · exact .inl (.inl e)
        · exact .inr e
      · exact .inl (.inr (.inl hk))
      · exact .inl (.inr (.inr hk))) hP.lk.settle.2 rfl (sv := .slice none 0 0) (fun k hk => by cases hk)
  exact ⟨ω', _, hW, rfl, rfl, rfl, rfl, rfl, rfl, rfl⟩
end
end Go.Proofs.YtjmcokcdaddpcaaGreatDoor
set_option linter.unusedVariables false
set_option linter.unusedSimpArgs false
namespace Go.Proofs.YtjmcokcdaddpcaaGreatDoor
open Go.RowKit
/-- Behind a step. -/
def StepQ (wz : World) (N : Nat) (s : WS) (x : Ending) (w' : World) : Prop := x = .returned (.bool true) ∧ ∃ ω' s', WInv wz N w' ω' s' ∧ s'.wb = s.wb ∧ s'.bn ≤ s.bn + 1 ∧ s.ps.length ≤ s'.ps.length ∧ ∀ p ∈ s'.ps, p.st = false
theorem askQ_bytes (c : RC) (r e : List UInt8) : (askQ c r e).2.1 = [] ∨ (askQ c r e).2.1 = (askQ c r e).2.2.2.bytes := by
  unfold askQ
  split
  · exact .inl rfl
  · split
    · exact .inl rfl
    · split
      · exact .inl rfl
      · exact .inr rfl
theorem askQ_idle {c : RC} {r e : List UInt8} (h : (askQ c r e).2.2.1 ≠ 0) : (askQ c r e).2.2.2 = c := by
  revert h
  unfold askQ
  split
  · exact fun _ => rfl
  · split
    · exact fun _ => rfl
    · split
      · exact fun _ => rfl
      · exact fun h => absurd rfl h
theorem st_set {ps : List PSt} (h : ∀ p ∈ ps, p.st = false) {i : Nat} {q : PSt} (hq : q.st = false) : ∀ p ∈ ps.set i q, p.st = false := fun p hp => by
  rcases List.mem_or_eq_of_mem_set hp with hp | rfl
  · exact h p hp
  · exact hq
theorem boxes {w w1 : World} {o1 o2 : Obj} {S : Nat → Prop} (hk : Kp S ((w.alloc o1).alloc o2) w1) (hS : ∀ k, S k → k < w.heap.size) : w1.heap[w.heap.size]? = some o1 ∧ w1.heap[w.heap.size + 1]? = some o2 ∧ w.heap.size + 1 < w1.heap.size := by
  have hs := hk.size
  simp at hs
  have e1 : (w.alloc o1).heap.size = w.heap.size + 1 := by simp
  have e2 := heap_alloc_new (w.alloc o1) o2
  rw [e1] at e2
  have e3 : ((w.alloc o1).alloc o2).heap[w.heap.size]? = some o1 := (Below.heap_alloc _ _ _ (by simp)).trans (heap_alloc_new w o1)
  exact ⟨(hk.block _ (by simp; omega) (fun h => by have := hS _ h; omega)).trans e3, (hk.block _ (by simp) (fun h => by have := hS _ h; omega)).trans e2, by omega⟩
theorem cells7 {w : World} {b : Nat} {v0 v1 v2 v3 v4 v5 v6 : Value} {T : TypeId} {fr : Nat × Nat} (h : w.heap[b]? = some (.cells #[v0, v1, v2, v3, v4, v5, v6] T fr)) : w.cell? ⟨b, 2, none⟩ = some v2 ∧ w.cell? ⟨b, 3, none⟩ = some v3 := by
  constructor <;> simp [World.cell?, h]
theorem cells4 {w : World} {b : Nat} {v0 v1 v2 v3 : Value} {T : TypeId} {fr : Nat × Nat} (h : w.heap[b]? = some (.cells #[v0, v1, v2, v3] T fr)) : w.cell? ⟨b, 0, none⟩ = some v0 ∧ w.cell? ⟨b, 1, none⟩ = some v1 ∧ w.cell? ⟨b, 2, none⟩ = some v2 ∧ w.cell? ⟨b, 3, none⟩ = some v3 := by
  refine ⟨?_, ?_, ?_, ?_⟩ <;> simp [World.cell?, h]
set_option maxRecDepth 100000 in
set_option maxHeartbeats 3200000 in
theorem wMoves_ask {wz : World} {N : Nat} {w : World} {ω : Nat → Nat} {s : WS} (h : WInv wz N w ω s) {i : Nat} {p : PSt} (hp : s.ps[i]? = some p) (e A C : Int) (S R : List UInt8) (ba : Option Addr) (bn bc : Nat) (hbn : s.bn < 2000000) (hst : ∀ p ∈ s.ps, p.st = false) :
    Calls Tryz.prog 78 #[ptr s.wb, .int .i64 i, .agg #[.int .i64 4, .int .i64 e, strV S, strV R, .slice ba bn bc, .int .i64 A, .int .i64 C]] w fun x w' => StepQ wz N s x w' := by
  have H : Hid (WInv wz N w ω s) := h
  have HP : Hid (s.ps[i]? = some p) := hp
  have hi : i < s.ps.length := (List.getElem?_eq_some_iff.1 hp).1
  have hpn : s.ps.length ≤ s.bn := h.pn
  obtain ⟨gl, cl, hvl, _, _⟩ := h.lr.form (by omega)
  have hlr := h.lr
  rw [hvl] at hlr
  obtain ⟨r0, r1, r2, r3, hgl⟩ := pr_at hlr hp
  have hblk := h.bk.blk
  obtain ⟨s0, _, _, _, _, _, sf⟩ := cells6R hblk
  rw [hvl] at s0
  have hwl : s.wb < w.heap.size := (Array.getElem?_eq_some_iff.1 hblk).1
  have hrf := (h.pr i p hp).rf
  obtain ⟨lg, hlg, _, _⟩ := hrf.lg
  obtain ⟨la, lc, hvlog⟩ := owned_shape hlg
  obtain ⟨pa, pc, hvb⟩ := owned_shape hrf.pb
  rw [hvlog] at r2
  rw [hvb] at r3
  have hiz : (i : Int) < s.ps.length := by omega
  have HC : Hid (∀ W : World, Below w.heap.size w W → CsAt p.M W p.cb p.c p.a p.wk) := fun W hW => (H.out.pr i p HP.out).pr.below hW
  have HV : Hid (s.vl = .slice (some ⟨gl, 0, none⟩) s.ps.length cl ∧ p.vlog = .slice la lg.length lc ∧ p.vb = .slice pa p.pb.length pc) := ⟨hvl, hvlog, hvb⟩
  have HST : Hid (∀ p ∈ s.ps, p.st = false) := hst
  clear h hp hlr hblk hrf hlg hvl hvlog hvb hst
  go_enter Tryz.func78, Tryz.ntmps78
  go_wp2_with fail
  refine (ask_any (HC.out _ (((Below.refl _ _).alloc (Nat.le_refl _) _).alloc (by simp) _)) R S).mono ?_
  obtain ⟨q1, q2, q3, q4⟩ := (H.out.pr i p HP.out).lk.ask R S
  obtain ⟨vd, hvd⟩ : ∃ vd, vd = (Dsr.askP p.c R S).1 := ⟨_, rfl⟩
  obtain ⟨fe, hfe⟩ : ∃ fe, fe = (Dsr.askP p.c R S).2.2.1 := ⟨_, rfl⟩
  obtain ⟨X, hX⟩ : ∃ X, X = (Dsr.askP p.c R S).2.1 := ⟨_, rfl⟩
  rw [← hvd] at q1
  rw [← hX] at q2
  rw [← hfe] at q3
  rintro y w1 ⟨sa, n, sc, hy, hA⟩
  rw [← hvd, ← hfe] at hy
  subst hy
  rw [← hX] at hA
  have HQ : Hid ((askQ p.rc R S).1 = vd ∧ (askQ p.rc R S).2.1 = X ∧ (askQ p.rc R S).2.2.1 = fe ∧ X = (Dsr.askP p.c R S).2.1) := ⟨q1, q2, q3, hX⟩
  clear q1 q2 q3 hvd hfe hX
  have hwA : Below w.heap.size w ((w.alloc (.cells #[.int .i64 4, .int .i64 e, strV S, strV R, .slice ba bn bc, .int .i64 A, .int .i64 C] 29)).alloc (.cells #[ptr p.cb, ptr p.rb, .slice la lg.length lc, .slice pa p.pb.length pc] 159)) := ((Below.refl _ _).alloc (Nat.le_refl _) _).alloc (by simp) _
  have hS1 : ∀ k, k = p.cb → PFoot p k := fun k hk => .inl hk
  have hr1 : RefAt w1 p := ref_mid H.out HP.out hwA hA.kp hS1
  have hcbl : p.cb < w.heap.size := (H.out.pr i p HP.out).pr.lt
  have HA : Hid _ := hA
  obtain ⟨x0, x1, hx1⟩ := boxes hA.kp (fun k hk => by rw [hk]; exact hcbl)
  have HR1 : Hid (RefAt w1 p) := hr1
  have HB1 : Hid (BOwn w.heap.size w1 (.slice sa n sc) X) := own_mono hA.own (by simp; omega)
  clear hA hr1 hwA hS1
  obtain ⟨y2, y3⟩ := cells7 x0
  obtain ⟨z0, z1, z2, z3⟩ := cells4 x1
  go_wp2_with fail
  refine (rcAsk_any HR1.out.rc R S).mono ?_
  rintro y w2 ⟨sa2, n2, sc2, a', hy, hR, hbo2, hvb2⟩
  rw [HQ.out.1, HQ.out.2.2.1] at hy
  subst hy
  have hXl : X.length ≤ 100 := by
    have := hR.rc.ok.by_
    rw [← HQ.out.2.1]
    rcases askQ_bytes p.rc R S with e | e
    · rw [e]; simp
    · rw [e]; exact this
  have hAS : AskS p.M ((w.alloc (.cells #[.int .i64 4, .int .i64 e, strV S, strV R, .slice ba bn bc, .int .i64 A, .int .i64 C] 29)).alloc (.cells #[ptr p.cb, ptr p.rb, .slice la lg.length lc, .slice pa p.pb.length pc] 159)) w1 p.cb (Dsr.askP p.c R S).2.2.2 p.a p.wk (.slice sa n sc) (Dsr.askP p.c R S).2.1 := by rw [← HQ.out.2.2.2]; exact HA.out
  obtain ⟨ω2, p', hW2, hv2, ⟨e1, e2, e3, e4, e5, e6, e7, e8, e9⟩, hω2⟩ := inv_ask H.out (decide (fe = 0)) HP.out (((Below.refl _ _).alloc (Nat.le_refl _) _).alloc (by simp) _) R S hAS hR (fun hf => by
    have hf : fe ≠ 0 := by simpa using hf
    rw [askQ_idle (by rw [HQ.out.2.2.1]; exact hf)]
    exact (H.out.pr i p HP.out).rf.pe (HST.out p (List.mem_of_getElem? HP.out)))
  have hcv := conv_str (ref_bytes HR1.out.rc hR.kp (own_mono HB1.out (Nat.zero_le _)))
  have hcv2 := conv_str hbo2
  rw [HQ.out.2.1] at hcv2
  have hXX : (X != X) = false := by simp
  have hs2 : w1.heap.size ≤ w2.heap.size := hR.kp.size
  have HVB : Hid (BOwn 0 w2 (.slice sa n sc) X ∧ ∀ k, (Value.slice sa n sc).ownBlock = some k → ω2 k = 2 ∧ w.heap.size ≤ k) := ⟨ref_bytes HR1.out.rc hR.kp (own_mono HB1.out (Nat.zero_le _)), hv2⟩
  have W2 : Hid (WInv wz N w2 ω2 { s with ps := s.ps.set i p' }) := hW2
  have HE : Hid ((fe = 0 → p'.ra.vb = .slice sa2 n2 sc2) ∧ p'.vlog = p.vlog ∧ p'.st = decide (fe = 0)) := ⟨fun h0 => by rw [e7]; exact hvb2 (HQ.out.2.2.1.trans h0), e3, e9⟩
  clear hAS hW2 hv2 hω2 hR hbo2 hvb2 e1 e2 e3 e4 e5 e6 e7 e8 e9
  go_wp2_with fail
  refine (bBytes_any W2.out.bk.blk W2.out.bk.bs W2.out.bk.kb W2.out.bk.rd HVB.out.1 (fun e he x hx hn => by
      obtain ⟨cc, hcc⟩ := (H.out.bk.rd e he).type hx
      have := (Array.getElem?_eq_some_iff.1 hcc).1
      have := (HVB.out.2 x hn).2
      omega) (by omega) (by have := H.out.bk.bl4; show s.bl.length ≤ _; omega) (by show s.bn ≤ _; omega) W2.out.NL (Nat.zero_le _)).mono ?_
  rintro y w3 ⟨rfl, hP⟩
  obtain ⟨ω3, s3, hW3, e1, e2, e3, e4, hω3⟩ := inv_bytes W2.out HVB.out.1 hP (fun k hk => (HVB.out.2 k hk).1) (by omega) hbn
  have e1 : s3.wb = s.wb := e1
  have e2 : s3.bn = s.bn + 1 := e2
  have e3 : s3.ps = s.ps.set i p' := e3
  have e4 : s3.vl = s.vl := e4
  have hp3 : s3.ps[i]? = some p' := by rw [e3]; exact List.getElem?_set_self hi
  have hblk3 := hW3.bk.blk
  rw [e1, e4, HV.out.1] at hblk3
  obtain ⟨k0, _, _, _, _, _, kf⟩ := cells6R hblk3
  have hwl3 : s.wb < w3.heap.size := (Array.getElem?_eq_some_iff.1 hblk3).1
  have hlr3 := hW3.lr
  have hln3 : s3.ps.length = s.ps.length := by rw [e3]; simp
  rw [e4, HV.out.1, hln3] at hlr3
  obtain ⟨_, _, _, d3, hgl3⟩ := pr_at hlr3 hp3
  obtain ⟨cur, hgc⟩ := own_type hlr3 (k := gl) rfl
  have df : ∀ o, w3.frozen? ⟨gl, o, none⟩ = false := fun o => by simp [World.frozen?, hgc]
  have H3 : Hid (WInv wz N w3 ω3 s3 ∧ s3.wb = s.wb ∧ s3.bn = s.bn + 1 ∧ s3.ps = s.ps.set i p' ∧ s3.vl = .slice (some ⟨gl, 0, none⟩) s3.ps.length cl ∧ s3.ps[i]? = some p') := ⟨hW3, e1, e2, e3, by rw [e4, HV.out.1, hln3], hp3⟩
  clear hW3 e1 e2 e3 e4 hp3 hblk3 hlr3 hω3 hP hcv hcv2 hgc
  rcases Nat.eq_zero_or_pos fe with h0 | h0
  · have HF : Hid (WInv wz N (w3.setCell ⟨gl, i * 4 + 3, none⟩ (.slice sa2 n2 sc2)) ω3 { s3 with ps := s3.ps.set i { p' with vb := .slice sa2 n2 sc2, pb := p'.rc.bytes, st := false } }) := by
      have hW := H3.out.1
      have hPk := hW.pr i p' H3.out.2.2.2.2.2
      have hav := HE.out.1 h0
      exact inv_put hW H3.out.2.2.2.2.2 H3.out.2.2.2.2.1 (by decide) rfl ⟨rfl, rfl, rfl, rfl, rfl⟩ ⟨hPk.rf.rc, hPk.rf.lg, by
        show BOwn 0 w3 (.slice sa2 n2 sc2) p'.rc.bytes
        rw [← hav]
        exact own_mono hPk.rf.rc.by_ (Nat.zero_le _), hPk.rf.rc.ok.by_, fun _ _ => rfl⟩ (fun k hk => by
        rcases hk with hk | hk | hk
        · exact hPk.qo k (.inl hk)
        · exact hPk.qo k (.inr (.inl hk))
        · refine hPk.qo k (.inl (.inr (.inr (.inr (.inr ?_)))))
          rw [hav]
          exact hk) hPk.lk
    subst h0
    go_wp2_with fail
    go_ret
    exact ⟨rfl, ω3, _, HF.out, H3.out.2.1, by show s3.bn ≤ _; rw [H3.out.2.2.1]; omega, (by show _ ≤ (s3.ps.set _ _).length; rw [H3.out.2.2.2.1]; simp), by
      show ∀ q ∈ s3.ps.set i _, q.st = false
      rw [H3.out.2.2.2.1, List.set_set]
      exact st_set HST.out rfl⟩
  · have hne : ((fe : Int) == 0) = false := by simp; omega
    go_wp2_with fail
    go_ret
    exact ⟨rfl, ω3, s3, H3.out.1, H3.out.2.1, by rw [H3.out.2.2.1]; omega, by rw [H3.out.2.2.2.1]; simp, by
      rw [H3.out.2.2.2.1]
      exact st_set HST.out (by rw [HE.out.2.2]; simp; omega)⟩
end Go.Proofs.YtjmcokcdaddpcaaGreatDoor
set_option linter.unusedVariables false
set_option linter.unusedSimpArgs false
namespace Go.Proofs.YtjmcokcdaddpcaaGreatDoor
open Go.RowKit
theorem boxes2 {w w1 w2 : World} {o1 o2 : Obj} {S : Nat → Prop} (h : w1.heap[w.heap.size]? = some o1 ∧ w1.heap[w.heap.size + 1]? = some o2 ∧ w.heap.size + 1 < w1.heap.size) (hk : Kp S w1 w2) (hS : ∀ k, S k → k < w.heap.size) : w2.heap[w.heap.size]? = some o1 ∧ w2.heap[w.heap.size + 1]? = some o2 ∧ w.heap.size + 1 < w2.heap.size :=
  ⟨(hk.block _ (by omega) (fun h => by have := hS _ h; omega)).trans h.1, (hk.block _ (by omega) (fun h => by have := hS _ h; omega)).trans h.2.1, by have := hk.size; omega⟩
/-- The log has been written anew, and lies in its pair. -/
theorem after_log {wz : World} {N : Nat} {w2 w3 w4 : World} {ω2 : Nat → Nat} {s2 : WS} {i gl cl g3 cap3 g4 cap4 : Nat} {p' : PSt} {lg pb : List UInt8} (W2 : Hid (WInv wz N w2 ω2 s2 ∧ s2.ps[i]? = some p' ∧ s2.vl = .slice (some ⟨gl, 0, none⟩) s2.ps.length cl ∧ 0 < lg.length ∧ lg.length + pb.length ≤ 3000 + 100 * p'.rc.reqs.length ∧ p'.st = false)) (B3 : Hid (BOwn w2.heap.size w3 (.slice (some ⟨g3, 0, none⟩) lg.length cap3) lg ∧ Below w2.heap.size w2 w3))
    (hown : w4.ownsRow w2.heap.size 5 1 (.slice (some ⟨g4, 0, none⟩) (lg.length + pb.length) cap4) (lg.length + pb.length) (lg.map byV ++ pb.map byV)) (hg : w3.grownBy w4 (Value.slice (some ⟨g3, 0, none⟩) lg.length cap3).ownBlock) :
    Hid (∃ ω4 p2, WInv wz N (w4.setCell ⟨gl, i * 4 + 2, none⟩ (.slice (some ⟨g4, 0, none⟩) (lg.length + pb.length) cap4)) ω4 { s2 with ps := s2.ps.set i p2 } ∧ p2.st = false) ∧ Below w2.heap.size w2 w4 := by
  obtain ⟨hW, hp, hvl, h0, hl, hst⟩ := W2.out
  have hb : Below w2.heap.size w2 w4 := B3.out.2.grown hg (by have := B3.out.2.size; omega) (fun k hk => (World.ownsRow.lt B3.out.1 k hk).1)
  refine ⟨?_, hb⟩
  have hW4 : WInv wz N w4 (ownN w2 ω2 fun _ => 4 + 2 * i) s2 := inv_below hW hb _
  have hPk := hW4.pr i p' hp
  refine ⟨_, { p' with vlog := .slice (some ⟨g4, 0, none⟩) (lg.length + pb.length) cap4 }, inv_put hW4 hp hvl (by decide) rfl ⟨rfl, rfl, rfl, rfl, rfl⟩ ⟨hPk.rf.rc, ⟨lg ++ pb, ?_, by simp; omega, by rw [List.length_append]; exact hl⟩, hPk.rf.pb, hPk.rf.pl, hPk.rf.pe⟩ (fun k hk => ?_) hPk.lk, hst⟩
  · refine own_mono (B := w2.heap.size) ?_ (Nat.zero_le _)
    show w4.ownsRow _ 5 1 _ (lg ++ pb).length ((lg ++ pb).map byV)
    rw [List.length_append, List.map_append]
    exact hown
  · rcases hk with hk | hk | hk
    · exact hPk.qo k (.inl hk)
    · rw [ownN_new (World.ownsRow.lt hown k hk).1]
    · exact hPk.qo k (.inr (.inr hk))
theorem after_cpL {w2 w3 : World} {lg : List UInt8} {g cap : Nat} (hown : w3.ownsRow w2.heap.size 5 1 (.slice (some ⟨g, 0, none⟩) (0 + lg.length) cap) (0 + lg.length) ([] ++ lg.map byV)) (hg : w2.grownBy w3 (Value.slice none 0 0).ownBlock) :
    Hid (BOwn w2.heap.size w3 (.slice (some ⟨g, 0, none⟩) lg.length cap) lg ∧ Below w2.heap.size w2 w3) := by
  rw [Nat.zero_add, List.nil_append] at hown
  exact ⟨hown, (Below.refl _ _).grown hg (Nat.le_refl _) (fun k hk => by cases hk)⟩
theorem settleQ_ok {c : RC} (h : (settleQ c).1 = 0) : c.bytes ≠ [] ∧ (settleQ c).2.reqs.length = c.reqs.length + 1 := by
  revert h
  unfold settleQ
  split
  · exact fun h => by cases h
  · rename_i hb
    exact fun _ => ⟨fun e => hb (by rw [e]; rfl), by simp⟩
set_option maxRecDepth 100000 in
set_option maxHeartbeats 3200000 in
theorem wMoves_settle {wz : World} {N : Nat} {w : World} {ω : Nat → Nat} {s : WS} (h : WInv wz N w ω s) {i : Nat} {p : PSt} (hp : s.ps[i]? = some p) (e A C : Int) (S R : List UInt8) (ba : Option Addr) (bn bc : Nat) (hbn : s.bn < 2000000) (hst : ∀ p ∈ s.ps, p.st = false) :
    Calls Tryz.prog 78 #[ptr s.wb, .int .i64 i, .agg #[.int .i64 5, .int .i64 e, strV S, strV R, .slice ba bn bc, .int .i64 A, .int .i64 C]] w fun x w' => StepQ wz N s x w' := by
  have H : Hid (WInv wz N w ω s) := h
  have HP : Hid (s.ps[i]? = some p) := hp
  have hi : i < s.ps.length := (List.getElem?_eq_some_iff.1 hp).1
  have hpn : s.ps.length ≤ s.bn := h.pn
  obtain ⟨gl, cl, hvl, _, _⟩ := h.lr.form (by omega)
  have hlr := h.lr
  rw [hvl] at hlr
  obtain ⟨r0, r1, r2, r3, hgl⟩ := pr_at hlr hp
  have hblk := h.bk.blk
  obtain ⟨s0, _, _, _, _, _, sf⟩ := cells6R hblk
  rw [hvl] at s0
  have hwl : s.wb < w.heap.size := (Array.getElem?_eq_some_iff.1 hblk).1
  have hrf := (h.pr i p hp).rf
  obtain ⟨lg, hlg, hlg0, hlgl⟩ := hrf.lg
  have hrq := hrf.rc.ok.rq
  have hpl := hrf.pl
  obtain ⟨la, lc, hvlog⟩ := owned_shape hlg
  obtain ⟨pa, pc, hvb⟩ := owned_shape hrf.pb
  rw [hvlog] at r2
  rw [hvb] at r3
  have hiz : (i : Int) < s.ps.length := by omega
  have HC : Hid (∀ W : World, Below w.heap.size w W → CsAt p.M W p.cb p.c p.a p.wk) := fun W hW => (H.out.pr i p HP.out).pr.below hW
  have HV : Hid (s.vl = .slice (some ⟨gl, 0, none⟩) s.ps.length cl ∧ p.vlog = .slice la lg.length lc ∧ p.vb = .slice pa p.pb.length pc ∧ BOwn 0 w p.vlog lg) := ⟨hvl, hvlog, hvb, hlg⟩
  have HST : Hid (∀ p ∈ s.ps, p.st = false) := hst
  clear h hp hlr hblk hrf hlg hvl hvlog hvb hst
  go_enter Tryz.func78, Tryz.ntmps78
  go_wp2_with fail
  refine (settle_any (HC.out _ (((Below.refl _ _).alloc (Nat.le_refl _) _).alloc (by simp) _))).mono ?_
  obtain ⟨q1, q2⟩ := (H.out.pr i p HP.out).lk.settle
  obtain ⟨fe, hfe⟩ : ∃ fe, fe = (Dsr.settleP p.c).1 := ⟨_, rfl⟩
  rw [← hfe] at q1
  rintro y w1 ⟨hy, hcs, hk⟩
  rw [← hfe] at hy
  subst hy
  have HQ : Hid ((settleQ p.rc).1 = fe) := q1
  clear q1 q2 hfe
  have hwA : Below w.heap.size w ((w.alloc (.cells #[.int .i64 5, .int .i64 e, strV S, strV R, .slice ba bn bc, .int .i64 A, .int .i64 C] 29)).alloc (.cells #[ptr p.cb, ptr p.rb, .slice la lg.length lc, .slice pa p.pb.length pc] 159)) := ((Below.refl _ _).alloc (Nat.le_refl _) _).alloc (by simp) _
  have hS1 : ∀ k, (k = p.cb ∨ k ∈ p.a.eb) → PFoot p k := fun k hk => by
    rcases hk with hk | hk
    · exact .inl hk
    · exact .inr (.inr (foot_iff.2 (.inr (.inl hk))))
  have hr1 : RefAt w1 p := ref_mid H.out HP.out hwA hk hS1
  have hbx := boxes hk (fun k hk => cfoot_lt (H.out.pr i p HP.out).pr (hS1 k hk))
  obtain ⟨z0, z1, z2, z3⟩ := cells4 hbx.2.1
  have hx1 := hbx.2.2
  have HB1 : Hid (BOwn 0 w1 p.vlog lg) := HV.out.2.2.2.block (fun k hk0 hv => (kp_after hwA hk).block k hk0 (fun hs => by
    have := (H.out.pr i p HP.out).po k (hS1 k hs)
    have := (H.out.pr i p HP.out).qo k (.inr (.inl hv))
    omega))
  have HR1 : Hid (RefAt w1 p) := hr1
  have HK : Hid _ := And.intro hcs hk
  have HBX : Hid _ := hbx
  clear hcs hk hr1 hbx hwA hS1
  go_wp2_with fail
  refine (rcSettle_any HR1.out.rc).mono ?_
  rintro y w2 ⟨hy, a', hR⟩
  rw [HQ.out] at hy
  subst hy
  obtain ⟨ω2, p', hW2, e1, e2, e3, e4, e5, e6, e7⟩ := inv_settle H.out HP.out (((Below.refl _ _).alloc (Nat.le_refl _) _).alloc (by simp) _) HK.out.1 HK.out.2 hR
  have hp2 : (s.ps.set i p')[i]? = some p' := List.getElem?_set_self hi
  rcases Nat.eq_zero_or_pos fe with h0 | h0
  · subst h0
    obtain ⟨hby, hrq'⟩ := settleQ_ok HQ.out
    have hpe : p.pb = p.rc.bytes := (H.out.pr i p HP.out).rf.pe (HST.out p (List.mem_of_getElem? HP.out)) hby
    have hpb0 : 0 < p.pb.length := by rw [hpe]; exact List.length_pos_iff.2 hby
    clear hpe
    have hlog2 : BOwn 0 w2 (.slice la lg.length lc) lg := by rw [← HV.out.2.1]; exact ref_bytes HR1.out.rc hR.kp HB1.out
    have hpb2 : BOwn 0 w2 (.slice pa p.pb.length pc) p.pb := by rw [← HV.out.2.2.1]; exact ref_bytes HR1.out.rc hR.kp HR1.out.pb
    obtain ⟨ga, rfl, _, _⟩ := own_some hlog2 hlg0
    obtain ⟨gb, rfl, _, _⟩ := own_some hpb2 hpb0
    have hbx2 := boxes2 HBX.out hR.kp (fun k hk => by
      have hr := (H.out.pr i p HP.out).rf.rc
      rcases hk with hk | hk
      · exact (hr.footLt (.inl hk)).2
      · exact (hr.footLt (.inr (.inr (.inl hk)))).2)
    obtain ⟨m0, m1, m2, m3⟩ := cells4 hbx2.2.1
    have hx2 := hbx2.2.2
    have hblk2 : w2.heap[s.wb]? = some (.cells #[.slice (some ⟨gl, 0, none⟩) s.ps.length cl, s.vbs, s.vkb, s.vss, s.vks, .int .i64 s.bn] 107 (0, 0)) := by
      have := hW2.bk.blk
      rw [show ({ s with ps := s.ps.set i p' } : WS).vl = .slice (some ⟨gl, 0, none⟩) s.ps.length cl from HV.out.1] at this
      exact this
    obtain ⟨k0, _, _, _, _, _, _⟩ := cells6R hblk2
    have hwl2 : s.wb < w2.heap.size := (Array.getElem?_eq_some_iff.1 hblk2).1
    have hlr2 : w2.ownsRow N 159 4 (.slice (some ⟨gl, 0, none⟩) s.ps.length cl) s.ps.length ((s.ps.set i p').flatMap prC) := by
      have := hW2.lr
      rw [show ({ s with ps := s.ps.set i p' } : WS).vl = .slice (some ⟨gl, 0, none⟩) s.ps.length cl from HV.out.1, show ({ s with ps := s.ps.set i p' } : WS).ps.length = s.ps.length from List.length_set] at this
      exact this
    obtain ⟨_, _, d2, _, hgl2⟩ := pr_at hlr2 hp2
    rw [e3, HV.out.2.1] at d2
    obtain ⟨cur, hgc⟩ := own_type hlr2 (k := gl) rfl
    have W2 : Hid (WInv wz N w2 ω2 { s with ps := s.ps.set i p' } ∧ ({ s with ps := s.ps.set i p' } : WS).ps[i]? = some p' ∧ ({ s with ps := s.ps.set i p' } : WS).vl = .slice (some ⟨gl, 0, none⟩) ({ s with ps := s.ps.set i p' } : WS).ps.length cl ∧ 0 < lg.length ∧ lg.length + p.pb.length ≤ 3000 + 100 * p'.rc.reqs.length ∧ p'.st = false) := ⟨hW2, hp2, HV.out.1.trans (by show _ = Value.slice _ (s.ps.set i p').length _; rw [List.length_set]), hlg0, by rw [e6, hrq']; omega, e7⟩
    have sW : ∀ W : World, Below w2.heap.size w2 W → W.cell? ⟨s.wb, 0, none⟩ = some (.slice (some ⟨gl, 0, none⟩) s.ps.length cl) ∧ W.cell? ⟨w.heap.size + 1, 3, none⟩ = some (.slice (some ⟨gb, 0, none⟩) p.pb.length pc) ∧ W.cell? ⟨gl, i * 4 + 2, none⟩ = some (.slice (some ⟨ga, 0, none⟩) lg.length lc) ∧ W.frozen? ⟨gl, i * 4 + 2, none⟩ = false ∧ gl < W.heap.size ∧ s.wb < W.heap.size ∧ w.heap.size + 1 < W.heap.size := fun W hW => by
      refine ⟨(hW.cell (p := ⟨s.wb, 0, none⟩) hwl2).trans k0, (hW.cell (p := ⟨w.heap.size + 1, 3, none⟩) hx2).trans m3, (hW.cell (p := ⟨gl, i * 4 + 2, none⟩) hgl2).trans d2, ?_, Nat.lt_of_lt_of_le hgl2 hW.size, Nat.lt_of_lt_of_le hwl2 hW.size, Nat.lt_of_lt_of_le hx2 hW.size⟩
      have := (hW.block gl hgl2).trans hgc
      simp [World.frozen?, this]
    have HL2 : Hid (BOwn 0 w2 (.slice (some ⟨ga, 0, none⟩) lg.length lc) lg ∧ BOwn 0 w2 (.slice (some ⟨gb, 0, none⟩) p.pb.length pc) p.pb) := ⟨hlog2, hpb2⟩
    obtain ⟨j0, hj, y0, y1, y2⟩ := info_parts info_u8
    clear hW2 hp2 hlog2 hpb2 hlr2 hblk2 hbx2 hgc d2 hR hrq' hby e1 e2 e3 e4 e5 e6 e7 k0 m0 m1 m3
    go_wp2_with (at_builtin; go_loud (refine wpList_append_lies _ rfl (.tmp 87) (.tmp 89) 27 rfl w2.heap.size 5 j0 _ 1 1 Tryz.underlying27 hj y0 y1 y2 rfl (by decide) (.slice none 0 0) 0 [] (by simp [Act.eval, Act.put]) (World.ownsRow_nil _ _ _ _) ⟨ga, 0, none⟩ lg.length lc (lg.map byV) (by simp [Act.eval, Act.put]) (by simp) (fun j u hu => World.ownsRow.cells HL2.out.1 (g := ga) rfl j u hu) (by intro u hu; obtain ⟨x, hx, rfl⟩ := List.mem_map.1 hu; rfl) hlg0 (by unfold maxLen; omega) (by omega) (by omega) _ rfl ?_); intro g3 cap3 w3 hown hgrow hat hlt5; have H3 := after_cpL hown hgrow; obtain ⟨t0, t1, t2, t3, t4, t5, t6⟩ := sW w3 H3.out.2; clear hown hgrow hat hlt5)
    have hw23 : w2.heap.size ≤ w3.heap.size := H3.out.2.size
    have HB3 : Hid (w3.ownsRow 0 5 1 (.slice (some ⟨gb, 0, none⟩) p.pb.length pc) p.pb.length (p.pb.map byV)) := ownsRow_of_block HL2.out.2 (fun k hk _ => H3.out.2.block k hk)
    go_region_law (refine step_append_lies _ rfl (.tmp 96) (.tmp 98) 27 rfl w2.heap.size 5 j0 _ 1 1 Tryz.underlying27 hj y0 y1 y2 rfl (by decide) (.slice (some ⟨g3, 0, none⟩) lg.length cap3) lg.length (lg.map byV) (by simp [Act.eval, Act.put]) (by first | exact H3.out.1 | exact H3.out.1.drew) ⟨gb, 0, none⟩ p.pb.length pc (p.pb.map byV) (by simp [Act.eval, Act.put]) (by simp) (fun j u hu => World.ownsRow.cells HB3.out (g := gb) rfl j u hu) (by intro u hu; obtain ⟨x, hx, rfl⟩ := List.mem_map.1 hu; rfl) hpb0 (by unfold maxLen; omega) (by omega) (by simpa using hw23) _ rfl ?_; intro g4 cap4 w4 hown hgrow hat hlt5; obtain ⟨HF, hB4⟩ := after_log W2 H3 hown (grownD hgrow); obtain ⟨v0, v1, v2, v3, v4, v5, v6⟩ := sW w4 hB4; clear hown hgrow hat hlt5 hB4)
    all_goals
      go_wp2_with fail
      go_ret
      obtain ⟨ω4, p2, hW4, hs4⟩ := HF.out
      exact ⟨rfl, ω4, _, hW4, rfl, by show s.bn ≤ _; omega, by show _ ≤ ((s.ps.set _ _).set _ _).length; simp, st_set (st_set HST.out W2.out.2.2.2.2.2) hs4⟩
  · have hne : ((fe : Int) == 0) = false := by simp; omega
    have HF : Hid (WInv wz N w2 ω2 { s with ps := s.ps.set i p' } ∧ p'.st = false) := ⟨hW2, e7⟩
    clear hW2 hR e1 e2 e3 e4 e5 e6 e7
    go_wp2_with fail
    go_ret
    exact ⟨rfl, ω2, _, HF.out.1, rfl, by show s.bn ≤ _; omega, by show _ ≤ (s.ps.set _ _).length; simp, st_set HST.out HF.out.2⟩
end Go.Proofs.YtjmcokcdaddpcaaGreatDoor
