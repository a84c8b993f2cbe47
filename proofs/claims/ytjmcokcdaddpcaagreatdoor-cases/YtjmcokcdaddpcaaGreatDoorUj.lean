import Derived.Test.YtjmcokcdaddpcaaGreatDoorRsG
import Derived.Test.YtjmcokcdaddpcaaGreatDoorUd
import Derived.Deep.DeepAppendWide
set_option linter.unusedVariables false
set_option linter.unusedSimpArgs false
namespace Go.Proofs.YtjmcokcdaddpcaaGreatDoor
open Go.RowKit
/-- The type of a row's block. -/
theorem own_type {w : World} {B m n k : Nat} {e : TypeId} {v : Value} {xs : List Value} (h : w.ownsRow B e m v n xs) (hk : v.ownBlock = some k) : ∃ cur, w.heap[k]? = some (.cells cur e (0, 0)) := by
  rcases h.2 with ⟨rfl, _⟩ | ⟨g, cap, cur, rfl, _, hb, _⟩
  · cases hk
  · cases hk
    exact ⟨cur, hb⟩
theorem LkAt.type {B b : Nat} {w : World} {l : LK} {s : LS} (h : LkAt B b w l s) {k : Nat} (hk : LMine b l s k) : ∃ cur T, w.heap[k]? = some (.cells cur T (0, 0)) ∧ (T = 221 ∨ T = 226 ∨ T = 269 ∨ T = 271 ∨ T = 9) := by
  rcases hk with hk | ⟨r, hr, hk⟩
  · simp at hk
    subst hk
    exact ⟨_, _, h.blk, .inl rfl⟩
  · obtain ⟨cur, hc⟩ := own_type (h.rows.own r hr) hk
    refine ⟨cur, r.e, hc, ?_⟩
    unfold lkRows at hr
    simp only [List.mem_cons] at hr
    rcases hr with rfl | rfl | rfl | hr
    · exact .inr (.inl rfl)
    · exact .inr (.inr (.inl rfl))
    · exact .inr (.inr (.inr (.inl rfl)))
    · refine .inr (.inr (.inr (.inr ?_)))
      unfold roleRows at hr
      obtain ⟨i, hi, rfl⟩ := List.getElem_of_mem hr
      simp
theorem cells_type {w : World} {k : Nat} {c c' : Array Value} {T T' : TypeId} {f f' : Nat × Nat} (h : w.heap[k]? = some (.cells c T f)) (h' : w.heap[k]? = some (.cells c' T' f')) : T = T' := by
  rw [h] at h'
  injection h' with h'
  injection h' with _ h' _
/-- The case's own block is none of the others. -/
theorem RcAt.notCb {N : Nat} {w : World} {cb : Nat} {c : RC} {a : RA} (h : RcAt N w cb c a) : ¬ LMine a.b c.l a.s cb ∧ a.vq.ownBlock ≠ some cb ∧ a.vl.ownBlock ≠ some cb ∧ a.vb.ownBlock ≠ some cb := by
  refine ⟨fun hk => ?_, fun hk => ?_, fun hk => ?_, fun hk => ?_⟩
  · obtain ⟨cur, T, hc, hT⟩ := h.lk.type hk
    have := cells_type h.blk hc
    rcases hT with rfl | rfl | rfl | rfl | rfl <;> exact absurd this (by decide)
  · obtain ⟨cur, hc⟩ := own_type h.rq hk
    exact absurd (cells_type h.blk hc) (by decide)
  · obtain ⟨cur, hc⟩ := own_type h.lg hk
    exact absurd (cells_type h.blk hc) (by decide)
  · obtain ⟨cur, hc⟩ := own_type h.by_ hk
    exact absurd (cells_type h.blk hc) (by decide)
/-- The requests' row is none of the others. -/
theorem RcAt.notVq {N : Nat} {w : World} {cb : Nat} {c : RC} {a : RA} (h : RcAt N w cb c a) {k : Nat} (hk : a.vq.ownBlock = some k) : k ≠ cb ∧ ¬ LMine a.b c.l a.s k ∧ a.vl.ownBlock ≠ some k ∧ a.vb.ownBlock ≠ some k := by
  obtain ⟨cur, hc⟩ := own_type h.rq hk
  refine ⟨fun e => h.notCb.2.1 (by rw [← e]; exact hk), fun hm => ?_, fun hm => ?_, fun hm => ?_⟩
  · obtain ⟨cur2, T, hc2, hT⟩ := h.lk.type hm
    have := cells_type hc hc2
    rcases hT with rfl | rfl | rfl | rfl | rfl <;> exact absurd this (by decide)
  · obtain ⟨cur2, hc2⟩ := own_type h.lg hm
    exact absurd (cells_type hc hc2) (by decide)
  · obtain ⟨cur2, hc2⟩ := own_type h.by_ hm
    exact absurd (cells_type hc hc2) (by decide)
/-- What the document's Ask answers. -/
def askQ (c : RC) (role ev : List UInt8) : Nat × List UInt8 × Nat × RC :=
  if 0 < c.bytes.length then (0, [], 5, c)
  else if 8 < role.length ∨ 8 < ev.length then (0, [], 1, c)
  else if 2000 < c.log.length + (Dsr.sealed (recQ c.reqs.length c.log role ev (saysQ c.l (marksQ c.l c.reqs) role ev))).length then (0, [], 7, c)
  else (saysQ c.l (marksQ c.l c.reqs) role ev, Dsr.sealed (recQ c.reqs.length c.log role ev (saysQ c.l (marksQ c.l c.reqs) role ev)), 0, { c with wr := role, we := ev, bytes := Dsr.sealed (recQ c.reqs.length c.log role ev (saysQ c.l (marksQ c.l c.reqs) role ev)) })
/-- The blocks that a call of a case writes in. -/
def RWr (a : RA) (cb k : Nat) : Prop := k = cb ∨ a.vq.ownBlock = some k
structure RStep (N : Nat) (w w' : World) (cb : Nat) (c : RC) (a : RA) (c' : RC) (a' : RA) : Prop where
  rc : RcAt N w' cb c' a'
  kp : Kp (RWr a cb) w w'
  foot : ∀ k, RFoot c' a' cb k → RFoot c a cb k ∨ w.heap.size ≤ k
theorem RStep.same {N : Nat} {w w' : World} {cb : Nat} {c : RC} {a : RA} (h : RcAt N w cb c a) (hb : Below w.heap.size w w') : RStep N w w' cb c a c a := ⟨h.below hb, (Kp.refl _ _).ofBelow hb, fun k hk => .inl hk⟩
theorem recQ_len (n : Nat) (log role ev : List UInt8) (v : Nat) (hl : 8 ≤ log.length) : (recQ n log role ev v).length = 12 + role.length + ev.length := by
  simp [recQ, Dsr.four]; omega
theorem RcAt.asked {N : Nat} {w w2 : World} {cb : Nat} {c : RC} {a : RA} {role ev r : List UInt8} {sa : Option Addr} {sn sc : Nat} (h : RcAt N w cb c a) (hb : Below w.heap.size w w2) (ho : BOwn w.heap.size w2 (.slice sa sn sc) r) (hr : role.length ≤ 8) (he : ev.length ≤ 8) (hl : r.length ≤ 100) (hbo : 16 ≤ r.length ∧ c.log.length + r.length ≤ 2000) :
    RStep N w (((w2.setCell ⟨cb, 3, none⟩ (strV role)).setCell ⟨cb, 4, none⟩ (strV ev)).setCell ⟨cb, 5, none⟩ (.slice sa sn sc)) cb c a { c with wr := role, we := ev, bytes := r } { a with vb := .slice sa sn sc } := by
  have h2 := h.below hb
  have hother : ∀ k, k ≠ cb → (((w2.setCell ⟨cb, 3, none⟩ (strV role)).setCell ⟨cb, 4, none⟩ (strV ev)).setCell ⟨cb, 5, none⟩ (.slice sa sn sc)).heap[k]? = w2.heap[k]? := fun k hk => by
    rw [heap_setCell_other _ _ _ _ hk, heap_setCell_other _ _ _ _ hk, heap_setCell_other _ _ _ _ hk]
  have hsz : (((w2.setCell ⟨cb, 3, none⟩ (strV role)).setCell ⟨cb, 4, none⟩ (strV ev)).setCell ⟨cb, 5, none⟩ (.slice sa sn sc)).heap.size = w2.heap.size := by simp [World.setCell]
  have hcl := h.lt
  have hne : ∀ k, (Value.slice sa sn sc).ownBlock = some k → k ≠ cb := fun k hk e => by have := (World.ownsRow.lt ho k hk).1; omega
  have hN : N ≤ w.heap.size := by have := h.low.1; omega
  refine ⟨⟨?_, h2.lk.same (by rw [hsz]; exact Nat.le_refl _) (fun k _ hm => hother k (fun e => h2.notCb.1 (by rw [← e]; exact hm))), ownsRow_of_block h2.rq (fun k _ hm => hother k (fun e => h2.notCb.2.1 (by rw [← e]; exact hm))), h2.lg.block (fun k _ hm => hother k (fun e => h2.notCb.2.2.1 (by rw [← e]; exact hm))), own_mono (ho.block (fun k _ hm => hother k (hne k hm))) hN, h.low, ⟨h.ok.sm, h.ok.rq, h.ok.lg, h.ok.lo, hl, hr, he, h.ok.sz, .inr hbo⟩⟩, ?_, ?_⟩
  · rw [blk_set (blk_set (blk_set h2.blk _ _) _ _) _ _]
    rfl
  · exact (((((Kp.refl _ _).ofBelow hb).setCell (.inl (.inl rfl)) _).setCell (.inl (.inl rfl)) _).setCell (.inl (.inl rfl)) _)
  · intro k hk
    rcases hk with rfl | hk | hk | hk | hk
    · exact .inl (.inl rfl)
    · exact .inl (.inr (.inl hk))
    · exact .inl (.inr (.inr (.inl hk)))
    · exact .inl (.inr (.inr (.inr (.inl hk))))
    · exact .inr (World.ownsRow.lt ho k hk).1
/-- What the document's Ask leaves. -/
def RAskP (N : Nat) (w : World) (cb : Nat) (c : RC) (a : RA) (q : Nat × List UInt8 × Nat × RC) (x : Ending) (w' : World) : Prop :=
  ∃ sa n sc a', x = .returned (.tuple #[.int .u8 (q.1 : Nat), .slice sa n sc, .int .i64 (q.2.2.1 : Nat)]) ∧ RStep N w w' cb c a q.2.2.2 a' ∧ BOwn N w' (.slice sa n sc) q.2.1 ∧ (q.2.2.1 = 0 → a'.vb = .slice sa n sc)
set_option maxRecDepth 100000 in
set_option maxHeartbeats 3200000 in
theorem rcAsk_any {N : Nat} {w : World} {cb : Nat} {c : RC} {a : RA} (h : RcAt N w cb c a) (role ev : List UInt8) :
    Calls Tryz.prog 124 #[ptr cb, strV role, strV ev] w fun x w' => RAskP N w cb c a (askQ c role ev) x w' := by
  have H : Hid (RcAt N w cb c a) := h
  obtain ⟨k0, k1, k2, k3, k4, k5, kf⟩ := cells6R h.blk
  have hcl := h.lt
  obtain ⟨ab, cbp, hvb⟩ := owned_shape h.by_
  obtain ⟨al, cl, hvl⟩ := owned_shape h.lg
  rw [hvb] at k5
  rw [hvl] at k2
  have hzb : (c.bytes.length : Int) ≤ 100 := by have := h.ok.by_; omega
  have hzl : (c.log.length : Int) ≤ 2000 := by have := h.ok.lg; omega
  clear h
  by_cases h1 : 0 < c.bytes.length
  · have HQ : Hid (askQ c role ev = (0, [], 5, c)) := if_pos h1
    have h1' : (0 : Int) < (c.bytes.length : Int) := by omega
    go_enter Tryz.func124, Tryz.ntmps124
    go_wp2_with fail
    go_ret3
    rw [HQ.out]
    exact ⟨_, _, _, a, rfl, RStep.same H.out (Below.refl _ _), World.ownsRow_nil _ _ _ _, fun h => by cases h⟩
  · have h1' : ¬ (0 : Int) < (c.bytes.length : Int) := by omega
    by_cases h2 : 8 < role.length ∨ 8 < ev.length
    · have HQ : Hid (askQ c role ev = (0, [], 1, c)) := (if_neg h1).trans (if_pos h2)
      clear h1
      go_enter Tryz.func124, Tryz.ntmps124
      by_cases h3 : 8 < role.length
      · have h3' : (8 : Int) < (role.length : Int) := by omega
        clear h2
        go_wp2_with fail
        go_ret3
        rw [HQ.out]
        exact ⟨_, _, _, a, rfl, RStep.same H.out (Below.refl _ _), World.ownsRow_nil _ _ _ _, fun h => by cases h⟩
      · have h3' : ¬ (8 : Int) < (role.length : Int) := by omega
        have h4' : (8 : Int) < (ev.length : Int) := by omega
        clear h2
        go_wp2_with fail
        go_ret3
        rw [HQ.out]
        exact ⟨_, _, _, a, rfl, RStep.same H.out (Below.refl _ _), World.ownsRow_nil _ _ _ _, fun h => by cases h⟩
    · have hr : role.length ≤ 8 := by omega
      have he : ev.length ≤ 8 := by omega
      have h3' : ¬ (8 : Int) < (role.length : Int) := by omega
      have h4' : ¬ (8 : Int) < (ev.length : Int) := by omega
      obtain ⟨r, hr0⟩ : ∃ r, r = Dsr.sealed (recQ c.reqs.length c.log role ev (saysQ c.l (marksQ c.l c.reqs) role ev)) := ⟨_, rfl⟩
      obtain ⟨vd, hvd⟩ : ∃ vd, vd = saysQ c.l (marksQ c.l c.reqs) role ev := ⟨_, rfl⟩
      have hrl : r.length ≤ 100 := by rw [hr0, Dsr.sealed_len, recQ_len _ _ _ _ _ H.out.ok.lo]; omega
      have hrl2 : 16 ≤ r.length := by rw [hr0, Dsr.sealed_len, recQ_len _ _ _ _ _ H.out.ok.lo]; omega
      have HQ : Hid (askQ c role ev = if 2000 < c.log.length + r.length then (0, [], 7, c) else (vd, r, 0, { c with wr := role, we := ev, bytes := r })) := by
        show _ = _
        rw [hr0, hvd]
        exact (if_neg h1).trans (if_neg h2)
      have HR : Hid (r = Dsr.sealed (recQ c.reqs.length c.log role ev vd) ∧ vd = saysQ c.l (marksQ c.l c.reqs) role ev) := ⟨by rw [hvd]; exact hr0, hvd⟩
      clear h1 h2 hr0 hvd
      go_enter Tryz.func124, Tryz.ntmps124
      go_wp2_with fail
      have HA : Hid (RcAt N (w.alloc (.cells #[strV role, strV ev] 238)) cb c a) := H.out.below ((Below.refl _ _).alloc (Nat.le_refl _) _)
      refine (rcNext_any HA.out role ev hr he).mono ?_
      rintro x w2 ⟨sa, sn, sc, rfl, ho, b2⟩
      rw [← HR.out.2, ← HR.out.1] at ho
      rw [← HR.out.2]
      have hsn := ho.len
      have p2 := (b2.block w.heap.size (by simp)).trans (heap_alloc_new _ _)
      have hb2 := below_alloc b2
      have ho2 : BOwn w.heap.size w2 (.slice sa sn sc) r := own_mono ho (by simp)
      clear k0 k1 k2 k3 k4 k5 kf
      obtain ⟨k0, k1, k2, k3, k4, k5, kf⟩ := cells6R (H.out.below hb2).blk
      rw [hvl] at k2
      have hcl2 := (H.out.below hb2).lt
      obtain ⟨r0, r1, rf⟩ := cells2R p2
      have hwl2 : w.heap.size < w2.heap.size := (Array.getElem?_eq_some_iff.1 p2).1
      have hcbw : ¬ cb = w.heap.size := by omega
      have hzn : (sn : Int) ≤ 100 := by omega
      have H2 : Hid (Below w.heap.size w w2 ∧ BOwn w.heap.size w2 (.slice sa sn sc) r ∧ sn = r.length) := ⟨hb2, ho2, hsn⟩
      clear ho b2 hb2 ho2 p2
      by_cases h5 : 2000 < c.log.length + r.length
      · have HS : Hid (askQ c role ev = (0, [], 7, c)) := HQ.out.trans (if_pos h5)
        have h5' : (2000 : Int) < (c.log.length : Int) + (sn : Int) := by omega
        clear h5 hsn
        go_wp2_with fail
        go_ret3
        rw [HS.out]
        exact ⟨_, _, _, a, rfl, RStep.same H.out H2.out.1, World.ownsRow_nil _ _ _ _, fun h => by cases h⟩
      · have HS : Hid (askQ c role ev = (vd, r, 0, { c with wr := role, we := ev, bytes := r })) := HQ.out.trans (if_neg h5)
        have h5' : ¬ (2000 : Int) < (c.log.length : Int) + (sn : Int) := by omega
        have HBO : Hid (16 ≤ r.length ∧ c.log.length + r.length ≤ 2000) := ⟨hrl2, by omega⟩
        clear h5 hsn
        go_wp2_with fail
        go_ret3
        rw [HS.out]
        have hst := H.out.asked H2.out.1 H2.out.2.1 hr he hrl HBO.out
        exact ⟨sa, sn, sc, _, rfl, hst, hst.rc.by_, fun _ => rfl⟩
end Go.Proofs.YtjmcokcdaddpcaaGreatDoor
set_option linter.unusedVariables false
set_option linter.unusedSimpArgs false
namespace Go.Proofs.YtjmcokcdaddpcaaGreatDoor
open Go.RowKit
/-- A list that came out: its number, its length. -/
structure BE where
  v : Value
  k : Nat
  n : Nat
def sgV (k i : Nat) : Value := .int .u8 (sgB k i : Nat)
def sgs (k n : Nat) : List Value := (List.range n).map (sgV k)
theorem sgs_len (k n : Nat) : (sgs k n).length = n := by simp [sgs]
theorem sgs_at (k n i : Nat) (h : i < n) : (sgs k n)[i]? = some (sgV k i) := by simp [sgs, h]
theorem sgs_snoc (k n : Nat) : sgs k (n + 1) = sgs k n ++ [sgV k n] := by simp [sgs, List.range_succ]
/-- It reads as its owner wrote it. -/
def Rd (w : World) (e : BE) : Prop := (e.v = .slice none 0 0 ∧ e.n = 0) ∨ ∃ g c, e.v = .slice (some ⟨g, 0, none⟩) e.n c ∧ e.n ≤ c ∧ c ≤ maxLen ∧ (∃ cur, w.heap[g]? = some (.cells cur 5 (0, 0))) ∧ ∀ i, i < e.n → w.cell? ⟨g, i, none⟩ = some (sgV e.k i)
theorem Rd.same {w w' : World} {e : BE} (h : Rd w e) (hs : w.heap.size ≤ w'.heap.size) (hk : ∀ k, k < w.heap.size → e.v.ownBlock = some k → w'.heap[k]? = w.heap[k]?) : Rd w' e := by
  rcases h with h | ⟨g, c, h1, h2, h3, h4, h5⟩
  · exact .inl h
  · obtain ⟨cur, h4⟩ := h4
    have hk' := hk g (Array.getElem?_eq_some_iff.1 h4).1 (by rw [h1]; rfl)
    refine .inr ⟨g, c, h1, h2, h3, ⟨cur, hk'.trans h4⟩, fun i hi => ?_⟩
    rw [World.cell?_of_block (a := ⟨g, i, none⟩) hk']
    exact h5 i hi
theorem Rd.of {w : World} {B k n : Nat} {v : Value} (h : w.ownsRow B 5 1 v n (sgs k n)) : Rd w ⟨v, k, n⟩ := by
  rcases h.2 with ⟨h1, h2⟩ | ⟨g, c, cur, h1, h2, h3, h4, h5, h6, h7⟩
  · exact .inl ⟨h1, h2⟩
  · exact .inr ⟨g, c, h1, h4, h5, ⟨cur, h3⟩, fun i hi => by rw [h1] at h; exact own_at h (sgs_at k n i hi)⟩
/-- Behind an append to a list of the number k the lists of that number in its block, no longer, read as before. -/
theorem Rd.app {w w5 : World} {B k n m g cap : Nat} {v : Value} {e : BE} (h : Rd w e) (hown : w5.ownsRow B 5 1 (.slice (some ⟨g, 0, none⟩) (n + m) cap) (n + m) (sgs k (n + m))) (hg : w.grownBy w5 v.ownBlock) (hk : v = .slice (some ⟨g, 0, none⟩) n cap ∨ ∀ x, x < w.heap.size → w5.heap[x]? = w.heap[x]?) (he : e.v.ownBlock = v.ownBlock → v.ownBlock ≠ none → e.k = k ∧ e.n ≤ n + m) : Rd w5 e := by
  rcases hk with hk | hk
  · rcases h with h | ⟨g2, c2, h1, h2, h3, h4, h5⟩
    · exact .inl h
    · by_cases hgg : g2 = g
      · obtain ⟨e1, e2⟩ := he (by rw [h1, hk, hgg]; rfl) (by rw [hk]; simp [Value.ownBlock])
        refine .inr ⟨g2, c2, h1, h2, h3, by rw [hgg]; exact own_type hown rfl, fun i hi => ?_⟩
        rw [hgg, e1]
        exact own_at hown (sgs_at k (n + m) i (by omega))
      · obtain ⟨cur, h4⟩ := h4
        have hb := hg.block g2 (Array.getElem?_eq_some_iff.1 h4).1 (by rw [hk]; simp [Value.ownBlock, hgg])
        refine .inr ⟨g2, c2, h1, h2, h3, ⟨cur, hb.trans h4⟩, fun i hi => ?_⟩
        rw [World.cell?_of_block (a := ⟨g2, i, none⟩) hb]
        exact h5 i hi
  · exact h.same hg.size (fun x hx _ => hk x hx)
theorem Rd.type {w : World} {e : BE} (h : Rd w e) {x : Nat} (hx : e.v.ownBlock = some x) : ∃ cur, w.heap[x]? = some (.cells cur 5 (0, 0)) := by
  rcases h with ⟨h1, _⟩ | ⟨g, c, h1, _, _, h4, _⟩
  · rw [h1] at hx; cases hx
  · rw [h1] at hx
    cases hx
    exact h4
/-- .. and the list itself is its owner's still. -/
theorem row_app {w w5 : World} {B k n m g cap : Nat} {v : Value} (h : w.ownsRow B 5 1 v n (sgs k n)) (hown : w5.ownsRow B 5 1 (.slice (some ⟨g, 0, none⟩) (n + m) cap) (n + m) (sgs k (n + m))) (hk : v = .slice (some ⟨g, 0, none⟩) n cap ∨ ∀ x, x < w.heap.size → w5.heap[x]? = w.heap[x]?) : w5.ownsRow B 5 1 v n (sgs k n) := by
  rcases hk with hk | hk
  · rcases hown.2 with ⟨h1, _⟩ | ⟨g2, c2, cur, h1, h2, h3, h4, h5, h6, h7⟩
    · cases h1
    · injection h1 with h1 _ h9
      injection h1 with h1
      injection h1 with h1
      subst h1 h9
      refine ⟨h.1, .inr ⟨g, cap, cur, hk, h2, h3, by omega, h5, h6, ?_⟩⟩
      have : (cur.toList.take ((n + m) * 1)).take (n * 1) = (sgs k (n + m)).take (n * 1) := by rw [h7]
      rw [List.take_take, Nat.min_eq_left (by omega)] at this
      rw [this]
      have e : sgs k (n + m) = sgs k n ++ ((List.range m).map fun i => sgV k (n + i)) := by
        simp [sgs, List.range_add, List.map_append]
      rw [e, List.take_append_of_le_length (by rw [sgs_len]; omega), List.take_of_length_le (by rw [sgs_len]; omega)]
  · exact ownsRow_of_block h (fun x hx _ => hk x hx)
end Go.Proofs.YtjmcokcdaddpcaaGreatDoor
set_option linter.unusedVariables false
set_option linter.unusedSimpArgs false
namespace Go.Proofs.YtjmcokcdaddpcaaGreatDoor
open Go.RowKit
section
variable {P : Program}
/-- An append onto a slice of the call's own, up to the machine's own bound: what came out, where it lies. -/
theorem wpList_append_far (w : World) {ops : Array Oper} {rest : List Oper} {o : Oper} {a : Act} {Q : Exit → Act → World → Prop} (hgd : o.guard = none) (s x : Operand) (t : TypeId)
    (ho : o.op = .call { callee := .builtin .append, args := #[s, x], argTypes := #[t, t] })
    (base : Nat) (e : TypeId) (i : TypeInfo) (z : Value) (size bytes : Nat) (ht : P.underlying t = some (.slice e)) (hi : P.info? e = some i) (hz : i.zero = some z)
    (hsize : i.size = size) (hby : i.bytes = bytes) (hzs : z.cells.size = size) (hsz : 0 < size)
    (v : Value) (n : Nat) (xs : List Value) (hs : a.eval s = v) (hown : w.ownsRow base e size v n xs)
    (ad : Addr) (m c : Nat) (news : List Value) (hx : a.eval x = .slice (some ad) m c) (hl : news.length = m * size) (hnews : ∀ j u, news[j]? = some u → w.cell? (ad.add j) = some u) (h1 : ∀ u ∈ news, u.oneCell' = true)
    (hm : 0 < m) (h63 : n + m ≤ maxLen) (hbytes : ((n + m) + (n + m) / 4 + 192) * bytes ≤ 281474976710656) (hbase : base ≤ w.heap.size) (H : Nat) (hH : w.heap.size = H)
    (h : ∀ g cap w', w'.ownsRow base e size (.slice (some ⟨g, 0, none⟩) (n + m) cap) (n + m) (xs ++ news) → w.grownBy w' v.ownBlock → (v.ownBlock = some g ∨ g = H) → g < w'.heap.size → wpList P ops Q rest (a.put o.dst (.slice (some ⟨g, 0, none⟩) (n + m) cap)) w') : wpList P ops Q (o :: rest) a w := by
  refine wpList_plain hgd fun K hK => ?_
  obtain ⟨v', w', hr, h2, h3, _⟩ := run_append_own_wide (P := P) w base t o.type e i z size bytes ht hi hz hsize hby hzs hsz v n xs hown ad m c news hl hnews h1 h63 hbytes hbase
  obtain ⟨g, cap, hv', _, hlt⟩ := h2.form (by omega)
  have hat : v.ownBlock = some g ∨ g = H := by
    subst hsize
    subst hby
    have hsmall : n + m ≤ 9223372036854775807 := by simp only [maxLen] at h63; omega
    rcases hown.2 with ⟨rfl, rfl⟩ | ⟨g0, cap0, cur, rfl, hbg, hg, hnc, hcm, hcs, htake⟩
    · right
      have hr2 := run_append_nil (P := P) w t o.type e i z ht hi hz ad m c news hl hnews hm (by omega) (Nat.le_trans (Nat.mul_le_mul_right _ (by omega)) hbytes)
      rw [hr2] at hr
      injection hr with hv hr
      rw [← hv] at hv'
      injection hv' with e1
      injection e1 with e1
      injection e1 with e1
      omega
    · by_cases hroom : n + m ≤ cap0
      · left
        have hfit : n * i.size + news.length ≤ cur.size := by rw [hl, hcs, ← Nat.add_mul]; exact Nat.mul_le_mul_right _ hroom
        have hr2 := run_append_room (P := P) w t o.type e i ht hi g0 n cap0 cur hg ad m c news hl hnews h1 hroom hfit
        rw [hr2] at hr
        injection hr with hv _
        rw [← hv] at hv'
        injection hv' with e1
        injection e1 with e1
        injection e1 with e1
        rw [e1]
        rfl
      · right
        have holds : ∀ j u, xs[j]? = some u → w.cell? ((⟨g0, 0, none⟩ : Addr).add j) = some u := hown.cells (g := g0) rfl
        have hr2 := run_append_grow (P := P) w t o.type e i z ht hi hz ⟨g0, 0, none⟩ n cap0 xs hown.1 holds ad m c news hl hnews (by omega) (by omega) (growslice_fits_wide (by omega) hbytes)
        rw [hr2] at hr
        injection hr with hv hr
        rw [← hv] at hv'
        injection hv' with e1
        injection e1 with e1
        injection e1 with e1
        omega
  subst hv'
  unfold Oper.wp execOp
  simp only [ho, resolve, invoke, builtin, Sem.run_bind, Sem.run_pure, Result.andThen_ok, List.map_toArray, List.map_cons, List.map_nil, hs, hx, hr]
  exact hK _ _ (h g cap w' h2 h3 hat hlt)
end
end Go.Proofs.YtjmcokcdaddpcaaGreatDoor
set_option linter.unusedVariables false
set_option linter.unusedSimpArgs false
namespace Go.Proofs.YtjmcokcdaddpcaaGreatDoor
open Go.RowKit
theorem own_fz {w : World} {B m n g c : Nat} {e : TypeId} {xs : List Value} (h : w.ownsRow B e m (.slice (some ⟨g, 0, none⟩) n c) n xs) (o : Nat) : w.frozen? ⟨g, o, none⟩ = false := by
  rcases h.2 with ⟨h1, _⟩ | ⟨g2, c2, cur, h1, _, h3, _⟩
  · cases h1
  · injection h1 with h1
    injection h1 with h1
    injection h1 with h1
    subst h1
    simp [World.frozen?, h3]
theorem mid_set {k m : Nat} {bs : List UInt8} {x : UInt8} (h : bs[m]? = some x) : (sgs k m ++ (bs.drop m).map byV).set m (sgV k m) = sgs k (m + 1) ++ (bs.drop (m + 1)).map byV := by
  rw [drop_at h, List.map_cons, List.set_append_right _ _ (by rw [sgs_len]; omega), sgs_len, Nat.sub_self, List.set_cons_zero, sgs_snoc, List.append_assoc]
  rfl
theorem mid_at {k m : Nat} {bs : List UInt8} {x : UInt8} (h : bs[m]? = some x) : (sgs k m ++ (bs.drop m).map byV)[m]? = some (byV x) := by
  rw [List.getElem?_append_right (by rw [sgs_len]; omega), sgs_len, Nat.sub_self, drop_at h]
  rfl
theorem sgs_2 (k n : Nat) : sgs k (n + 2) = sgs k n ++ [sgV k n, sgV k (n + 1)] := by rw [sgs_snoc, sgs_snoc, List.append_assoc]; rfl
theorem sgs_3 (k n : Nat) : sgs k (n + 3) = sgs k n ++ [sgV k n, sgV k (n + 1), sgV k (n + 2)] := by rw [sgs_snoc, sgs_snoc, sgs_snoc, List.append_assoc, List.append_assoc]; rfl
theorem lSign_at (k i : Nat) (iI : Int) (hI : iI = (i : Int)) (hk : k < 9223372036854775807) (hi : i < 9223372036854775807) (w : World) :
    Calls Tryz.prog 82 #[.int .i64 k, .int .i64 iI] w fun x w' => x = .returned (sgV k i) ∧ w' = w := by
  subst hI
  exact lSign_any k i hk hi w
structure BMid (B k n : Nat) (w0 wk : World) (vb : Value) (es : List BE) : Prop where
  row : wk.ownsRow B 5 1 vb n (sgs k n)
  rd : ∀ e ∈ es, Rd wk e
  kp : Kp (fun x => vb.ownBlock = some x) w0 wk
  le : ∀ e ∈ es, e.k = k ∧ e.n ≤ n + 3
  bl : ∀ e ∈ es, ∀ x, e.v.ownBlock = some x → vb.ownBlock = some x ∨ w0.heap.size ≤ x
theorem BMid.app {B k n m g cap H : Nat} {w0 wk w5 : World} {vb : Value} {es : List BE} {o : Obj} {news : List Value} (h : BMid B k n w0 wk vb es) (hnews : sgs k n ++ news = sgs k (n + m)) (hown : w5.ownsRow B 5 1 (.slice (some ⟨g, 0, none⟩) (n + m) cap) (n + m) (sgs k n ++ news)) (hg : (wk.alloc o).grownBy w5 vb.ownBlock) (hk : vb = .slice (some ⟨g, 0, none⟩) n cap ∨ (g = H ∧ ∀ x, x < (wk.alloc o).heap.size → w5.heap[x]? = (wk.alloc o).heap[x]?)) (hH : wk.heap.size ≤ H) (hle : ∀ e ∈ es, e.n ≤ n + m) (hm : m ≤ 3) :
    Hid (BMid B k n w0 w5 vb (es ++ [⟨.slice (some ⟨g, 0, none⟩) (n + m) cap, k, n + m⟩])) := by
  rw [hnews] at hown
  have hk2 : vb = .slice (some ⟨g, 0, none⟩) n cap ∨ ∀ x, x < (wk.alloc o).heap.size → w5.heap[x]? = (wk.alloc o).heap[x]? := hk.imp id (fun h => h.2)
  have hkp : Kp (fun x => vb.ownBlock = some x) w0 w5 := by
    refine ⟨hg.os.trans h.kp.os, hg.tape.trans h.kp.tape, hg.output.trans h.kp.output, Nat.le_trans h.kp.size (by have := hg.size; simp at this; omega), fun x hx hS => ?_⟩
    have hx2 : x < wk.heap.size := Nat.lt_of_lt_of_le hx h.kp.size
    rw [hg.block x (by simp; omega) (fun e => hS e.symm), Below.heap_alloc _ _ _ hx2]
    exact h.kp.block x hx hS
  refine ⟨row_app (h.row.alloc o) hown hk2, fun e he => ?_, hkp, fun e he => ?_, fun e he x hx => ?_⟩
  · rcases List.mem_append.1 he with he | he
    · exact ((h.rd e he).same (w' := wk.alloc o) (by simp) (fun x hx _ => Below.heap_alloc _ _ _ hx)).app hown hg hk2 (fun _ _ => ⟨(h.le e he).1, hle e he⟩)
    · simp at he
      subst he
      exact Rd.of hown
  · rcases List.mem_append.1 he with he | he
    · exact h.le e he
    · simp at he
      subst he
      exact ⟨rfl, by show n + m ≤ n + 3; omega⟩
  · rcases List.mem_append.1 he with he | he
    · exact h.bl e he x hx
    · simp at he
      subst he
      have hgx : g = x := by simpa [Value.ownBlock] using hx
      subst hgx
      rcases hk with hk | hk
      · left; rw [hk]; rfl
      · right
        have := h.kp.size
        omega
/-- A row of the world's block has been appended to and laid there. -/
theorem put_row {w w2 : World} {N wb j n m g cap : Nat} {T : TypeId} {cs : Array Value} {v : Value} {xs news : List Value} {o : Obj} (hblk : w.heap[wb]? = some (.cells cs 107 (0, 0))) (hT : T ≠ 107) (hv : w.ownsRow N T 1 v n xs) (hown : w2.ownsRow N T 1 (.slice (some ⟨g, 0, none⟩) (n + m) cap) (n + m) (xs ++ news)) (hg : (w.alloc o).grownBy w2 v.ownBlock) (hat : v.ownBlock = some g ∨ g = w.heap.size + 1) :
    w2.heap[wb]? = some (.cells cs 107 (0, 0)) ∧ (w2.setCell ⟨wb, j, none⟩ (.slice (some ⟨g, 0, none⟩) (n + m) cap)).heap[wb]? = some (.cells (cs.setIfInBounds j (.slice (some ⟨g, 0, none⟩) (n + m) cap)) 107 (0, 0)) ∧ (w2.setCell ⟨wb, j, none⟩ (.slice (some ⟨g, 0, none⟩) (n + m) cap)).ownsRow N T 1 (.slice (some ⟨g, 0, none⟩) (n + m) cap) (n + m) (xs ++ news) ∧ Kp (fun x => x = wb ∨ v.ownBlock = some x) w (w2.setCell ⟨wb, j, none⟩ (.slice (some ⟨g, 0, none⟩) (n + m) cap)) ∧ (v.ownBlock = some g ∨ w.heap.size ≤ g) := by
  have hwl : wb < w.heap.size := (Array.getElem?_eq_some_iff.1 hblk).1
  have hnv : v.ownBlock ≠ some wb := fun e => by
    obtain ⟨cur, hc⟩ := own_type hv e
    exact hT (cells_type hc hblk)
  have hb2 : w2.heap[wb]? = some (.cells cs 107 (0, 0)) := (hg.block wb (by simp; omega) (fun e => hnv e.symm)).trans ((Below.heap_alloc _ _ _ hwl).trans hblk)
  have hgw : g ≠ wb := by
    rcases hat with e | e
    · exact fun e2 => hnv (by rw [← e2]; exact e)
    · omega
  refine ⟨hb2, blk_set hb2 _ _, ownsRow_of_block hown (fun x hx hx2 => heap_setCell_other _ _ _ _ (fun e => ?_)), ?_, hat.imp id (fun e => by omega)⟩
  · cases hx2
    exact hgw e
  · refine Kp.setCell (a := ⟨wb, j, none⟩) ?_ (.inl (.inl rfl)) _
    exact ⟨hg.os, hg.tape, hg.output, by have := hg.size; simp at this; omega, fun x hx hS => (hg.block x (by simp; omega) (fun e => hS (.inr e.symm))).trans (Below.heap_alloc _ _ _ hx)⟩
theorem kept_row {w w0 w3 : World} {N B wb m n nb : Nat} {T : TypeId} {cs : Array Value} {v vb x : Value} {xs bx : List Value} (hblk : w.heap[wb]? = some (.cells cs 107 (0, 0))) (hw0 : w0 = w.setCell ⟨wb, 5, none⟩ x) (hb : w.ownsRow B 5 1 vb nb bx) (hkp : Kp (fun y => vb.ownBlock = some y) w0 w3) (hT1 : T ≠ 107) (hT2 : T ≠ 5) (h : w.ownsRow N T m v n xs) : w3.ownsRow N T m v n xs := by
  refine ownsRow_of_block h (fun y hy hv => ?_)
  obtain ⟨cur, hc⟩ := own_type h hv
  have h1 : w0.heap[y]? = w.heap[y]? := by
    rw [hw0]
    exact heap_setCell_other _ _ _ _ (fun e => by
      have e : y = wb := e
      rw [e] at hc
      exact hT1 (cells_type hc hblk))
  refine (hkp.block y (by rw [hw0]; simpa [World.setCell] using hy) (fun e => ?_)).trans h1
  obtain ⟨cur2, hc2⟩ := own_type hb e
  exact hT2 (cells_type hc hc2)
theorem kept_rd {w w0 w3 : World} {wb : Nat} {cs : Array Value} {vb x : Value} {e : BE} (hblk : w.heap[wb]? = some (.cells cs 107 (0, 0))) (hw0 : w0 = w.setCell ⟨wb, 5, none⟩ x) (hkp : Kp (fun y => vb.ownBlock = some y) w0 w3) (h : Rd w e) (hne : ∀ y, e.v.ownBlock = some y → vb.ownBlock ≠ some y) : Rd w3 e := by
  have hs : w0.heap.size = w.heap.size := by rw [hw0]; simp [World.setCell]
  refine h.same (by rw [← hs]; exact hkp.size) (fun y hy hv => ?_)
  obtain ⟨cur, hc⟩ := h.type hv
  have h1 : w0.heap[y]? = w.heap[y]? := by
    rw [hw0]
    exact heap_setCell_other _ _ _ _ (fun e => by
      have e : y = wb := e
      rw [e] at hc
      exact absurd (cells_type hc hblk) (by decide))
  exact (hkp.block y (by omega) (hne y hv)).trans h1
theorem kp_rd {w w' : World} {wb N n : Nat} {T : TypeId} {cs : Array Value} {v : Value} {xs : List Value} {e : BE} (hblk : w.heap[wb]? = some (.cells cs 107 (0, 0))) (hr : w.ownsRow N T 1 v n xs) (hT : T ≠ 5) (hkp : Kp (fun y => y = wb ∨ v.ownBlock = some y) w w') (h : Rd w e) : Rd w' e :=
  h.same hkp.size (fun y hy hv => hkp.block y hy (fun hS => by
    obtain ⟨cur, hc⟩ := h.type hv
    rcases hS with rfl | hS
    · exact absurd (cells_type hc hblk) (by decide)
    · obtain ⟨cur2, hc2⟩ := own_type hr hS
      exact hT (cells_type hc2 hc)))
theorem kp_row {w w' : World} {wb N n N2 n2 m2 : Nat} {T T2 : TypeId} {cs : Array Value} {v v2 : Value} {xs xs2 : List Value} (hblk : w.heap[wb]? = some (.cells cs 107 (0, 0))) (hr : w.ownsRow N T 1 v n xs) (hkp : Kp (fun y => y = wb ∨ v.ownBlock = some y) w w') (h : w.ownsRow N2 T2 m2 v2 n2 xs2) (hT : T2 ≠ T) (hT2 : T2 ≠ 107) : w'.ownsRow N2 T2 m2 v2 n2 xs2 :=
  ownsRow_of_block h (fun y hy hv => hkp.block y hy (fun hS => by
    obtain ⟨cur, hc⟩ := own_type h hv
    rcases hS with rfl | hS
    · exact hT2 (cells_type hc hblk)
    · obtain ⟨cur2, hc2⟩ := own_type hr hS
      exact hT (cells_type hc hc2)))
theorem byt_mid {w w0 w3 : World} {wb N B k nb : Nat} {vl vbs vkb vss vks vb b5 : Value} {bx : List Value} {bl es : List BE} {ab ak : Option Addr} {cbp ckp : Nat} (hblk : w.heap[wb]? = some (.cells #[vl, vbs, vkb, vss, vks, b5] 107 (0, 0))) (hbs : w.ownsRow N 27 1 vbs bl.length (bl.map (·.v))) (hkb : w.ownsRow N 3 1 vkb bl.length (bl.map fun e => .int .i64 (e.k : Nat)))
    (hrd : ∀ e ∈ bl, Rd w e) (hb : w.ownsRow B 5 1 vb nb bx) (hne : ∀ e ∈ bl, ∀ x, e.v.ownBlock = some x → vb.ownBlock ≠ some x) (hw0 : w0 = w.setCell ⟨wb, 5, none⟩ (.int .i64 k)) (hm : BMid B k nb w0 w3 vb es) (hN : N ≤ w.heap.size) (hv : Hid (vbs = .slice ab bl.length cbp ∧ vkb = .slice ak bl.length ckp)) :
    Hid (w3.heap[wb]? = some (.cells #[vl, vbs, vkb, vss, vks, .int .i64 k] 107 (0, 0)) ∧ w3.ownsRow N 27 1 (.slice ab bl.length cbp) bl.length (bl.map (·.v)) ∧ w3.ownsRow N 3 1 (.slice ak bl.length ckp) bl.length (bl.map fun e => .int .i64 (e.k : Nat)) ∧ (∀ e ∈ bl, Rd w3 e)) ∧ w3.cell? ⟨wb, 1, none⟩ = some (.slice ab bl.length cbp) ∧ wb < w3.heap.size ∧ N ≤ w3.heap.size := by
  have hs0 : w0.heap.size = w.heap.size := by rw [hw0]; simp [World.setCell]
  have hwl : wb < w.heap.size := (Array.getElem?_eq_some_iff.1 hblk).1
  have hnb : vb.ownBlock ≠ some wb := fun e => by
    obtain ⟨cur, hc⟩ := own_type hb e
    exact absurd (cells_type hc hblk) (by decide)
  have hb3 : w3.heap[wb]? = some (.cells #[vl, vbs, vkb, vss, vks, .int .i64 k] 107 (0, 0)) := by
    rw [hm.kp.block wb (by rw [hs0]; exact hwl) hnb, hw0, blk_set hblk]
    rfl
  obtain ⟨q0, q1, q2, q3, q4, q5, qf⟩ := cells6R hb3
  rw [hv.out.1] at q1
  refine ⟨⟨hb3, ?_, ?_, ?_⟩, q1, (Array.getElem?_eq_some_iff.1 hb3).1, by have := hm.kp.size; omega⟩
  · rw [← hv.out.1]; exact kept_row hblk hw0 hb hm.kp (by decide) (by decide) hbs
  · rw [← hv.out.2]; exact kept_row hblk hw0 hb hm.kp (by decide) (by decide) hkb
  · exact fun e he => kept_rd hblk hw0 hm.kp (hrd e he) (hne e he)
theorem byt_two {w3 w5 : World} {wb N k : Nat} {vl vb1 vkb vss vks : Value} {bl es : List BE} {ab ak : Option Addr} {cbp ckp : Nat} (h : w3.heap[wb]? = some (.cells #[vl, vb1, vkb, vss, vks, .int .i64 k] 107 (0, 0)) ∧ w3.ownsRow N 27 1 (.slice ab bl.length cbp) bl.length (bl.map (·.v)) ∧ w3.ownsRow N 3 1 (.slice ak bl.length ckp) bl.length (bl.map fun e => .int .i64 (e.k : Nat)) ∧ (∀ e ∈ bl, Rd w3 e))
    (hkp : Kp (fun x => x = wb ∨ (Value.slice ab bl.length cbp).ownBlock = some x) w3 w5) (hes : ∀ e ∈ es, Rd w3 e) : w5.ownsRow N 3 1 (.slice ak bl.length ckp) bl.length (bl.map fun e => .int .i64 (e.k : Nat)) ∧ ∀ e ∈ bl ++ es, Rd w5 e :=
  ⟨kp_row h.1 h.2.1 hkp h.2.2.1 (by decide) (by decide), fun e he => by
    rcases List.mem_append.1 he with he | he
    · exact kp_rd h.1 h.2.1 (by decide) hkp (h.2.2.2 e he)
    · exact kp_rd h.1 h.2.1 (by decide) hkp (hes e he)⟩
/-- The blocks that 'bytes' writes in. -/
def BytS (wb : Nat) (vbs vkb vb : Value) (x : Nat) : Prop := x = wb ∨ vbs.ownBlock = some x ∨ vkb.ownBlock = some x ∨ vb.ownBlock = some x
theorem byt_kp {w w0 w3 w5 w7 : World} {wb : Nat} {vbs vkb vb x : Value} (hw0 : w0 = w.setCell ⟨wb, 5, none⟩ x) (h3 : Kp (fun y => vb.ownBlock = some y) w0 w3) (h5 : Kp (fun y => y = wb ∨ vbs.ownBlock = some y) w3 w5) (h7 : Kp (fun y => y = wb ∨ vkb.ownBlock = some y) w5 w7) : Kp (BytS wb vbs vkb vb) w w7 := by
  have h0 : Kp (BytS wb vbs vkb vb) w w0 := by rw [hw0]; exact Kp.setCell (a := ⟨wb, 5, none⟩) (Kp.refl _ _) (.inl (.inl rfl)) _
  refine ⟨((h7.os.trans h5.os).trans h3.os).trans h0.os, ((h7.tape.trans h5.tape).trans h3.tape).trans h0.tape, ((h7.output.trans h5.output).trans h3.output).trans h0.output, Nat.le_trans h0.size (Nat.le_trans h3.size (Nat.le_trans h5.size h7.size)), fun y hy hS => ?_⟩
  have y0 : y < w0.heap.size := Nat.lt_of_lt_of_le hy h0.size
  have y3 : y < w3.heap.size := Nat.lt_of_lt_of_le y0 h3.size
  have y5 : y < w5.heap.size := Nat.lt_of_lt_of_le y3 h5.size
  rw [h7.block y y5 (fun h => hS (h.elim .inl (fun h => .inr (.inr (.inl h))))), h5.block y y3 (fun h => hS (h.elim .inl (fun h => .inr (.inl h)))), h3.block y y0 (fun h => hS (.inr (.inr (.inr h))))]
  exact h0.block y hy hS
abbrev bl2 (va : Option Addr) (vc n k g1 g2 g3 cap1 cap2 cap3 : Nat) : List BE := ((([⟨.slice va n vc, k, n⟩] ++ [⟨.slice (some ⟨g1, 0, none⟩) (n + 1) cap1, k, n + 1⟩]) ++ [⟨.slice (some ⟨g2, 0, none⟩) (n + 2) cap2, k, n + 2⟩]) ++ [⟨.slice (some ⟨g3, 0, none⟩) (n + 3) cap3, k, n + 3⟩])
theorem info_slu8 : (Tryz.prog.info? 27).map (fun i => (i.zero, i.size, i.bytes)) = some (some (.slice none 0 0), 1, 24) := by kernel_rfl
theorem info_int : (Tryz.prog.info? 3).map (fun i => (i.zero, i.size, i.bytes)) = some (some (.int .i64 0), 1, 8) := by kernel_rfl
/-- Four lists more. -/
def more4 (vb vg vh vj : Value) (k n : Nat) : List BE := [⟨vb, k, n⟩, ⟨vg, k, n + 1⟩, ⟨vh, k, n + 2⟩, ⟨vj, k, n + 3⟩]
def BytesP (N : Nat) (w : World) (wb : Nat) (vl vbs vkb vss vks vb : Value) (bn n : Nat) (bl : List BE) (w' : World) : Prop :=
  ∃ vbs' vkb' vg vh vj, w'.heap[wb]? = some (.cells #[vl, vbs', vkb', vss, vks, .int .i64 (bn + 1 : Nat)] 107 (0, 0)) ∧
    w'.ownsRow N 27 1 vbs' (bl.length + 4) ((bl ++ more4 vb vg vh vj (bn + 1) n).map (·.v)) ∧ w'.ownsRow N 3 1 vkb' (bl.length + 4) ((bl ++ more4 vb vg vh vj (bn + 1) n).map fun e => .int .i64 (e.k : Nat)) ∧
    (∀ e ∈ bl ++ more4 vb vg vh vj (bn + 1) n, Rd w' e) ∧ Kp (BytS wb vbs vkb vb) w w' ∧
    (∀ x, vbs'.ownBlock = some x → vbs.ownBlock = some x ∨ w.heap.size ≤ x) ∧ (∀ x, vkb'.ownBlock = some x → vkb.ownBlock = some x ∨ w.heap.size ≤ x) ∧ (∀ x, vg.ownBlock = some x ∨ vh.ownBlock = some x ∨ vj.ownBlock = some x → vb.ownBlock = some x ∨ w.heap.size ≤ x)
set_option maxRecDepth 100000 in
set_option maxHeartbeats 3200000 in
theorem bBytes_any {w : World} {wb N B bn : Nat} {vl vbs vkb vss vks vb : Value} {bl : List BE} {bs : List UInt8}
    (hblk : w.heap[wb]? = some (.cells #[vl, vbs, vkb, vss, vks, .int .i64 bn] 107 (0, 0))) (hbs : w.ownsRow N 27 1 vbs bl.length (bl.map (·.v))) (hkb : w.ownsRow N 3 1 vkb bl.length (bl.map fun e => .int .i64 (e.k : Nat)))
    (hrd : ∀ e ∈ bl, Rd w e) (hb : BOwn B w vb bs) (hne : ∀ e ∈ bl, ∀ x, e.v.ownBlock = some x → vb.ownBlock ≠ some x) (hlen : bs.length ≤ 3000) (hbl : bl.length ≤ 6400000000000) (hbn : bn ≤ 1600000000000) (hNw : N ≤ w.heap.size) (hB : B ≤ w.heap.size) :
    Calls Tryz.prog 74 #[.pointer (some ⟨wb, 1, none⟩), vb] w fun x w' => x = .returned (.tuple #[]) ∧ BytesP N w wb vl vbs vkb vss vks vb bn bs.length bl w' := by
  obtain ⟨va, vc, rfl⟩ := owned_shape hb
  obtain ⟨ab, cbp, hvbs⟩ := owned_shape hbs
  obtain ⟨ak, ckp, hvkb⟩ := owned_shape hkb
  have HVB : Hid (vbs = .slice ab bl.length cbp ∧ vkb = .slice ak bl.length ckp) := ⟨hvbs, hvkb⟩
  clear hvbs hvkb
  obtain ⟨k0, k1, k2, k3, k4, k5, kf⟩ := cells6R hblk
  have kf5 := kf 5
  have hwl : wb < w.heap.size := (Array.getElem?_eq_some_iff.1 hblk).1
  have hzn : (bs.length : Int) ≤ 3000 := by omega
  have hzb : (bn : Int) ≤ 1600000000000 := by omega
  have H : Hid (w.heap[wb]? = some (.cells #[vl, vbs, vkb, vss, vks, .int .i64 bn] 107 (0, 0)) ∧ w.ownsRow N 27 1 vbs bl.length (bl.map (·.v)) ∧ w.ownsRow N 3 1 vkb bl.length (bl.map fun e => .int .i64 (e.k : Nat)) ∧ (∀ e ∈ bl, Rd w e) ∧ w.ownsRow B 5 1 (.slice va bs.length vc) bs.length (bs.map byV) ∧ (∀ e ∈ bl, ∀ x, e.v.ownBlock = some x → (Value.slice va bs.length vc).ownBlock ≠ some x)) := ⟨hblk, hbs, hkb, hrd, hb, hne⟩
  clear hblk hbs hkb hrd hb hne k0 k1 k2 k3 k4 kf
  obtain ⟨k, hk⟩ : ∃ k : Nat, k = bn + 1 := ⟨_, rfl⟩
  have hkI : (bn : Int) + 1 = (k : Int) := by omega
  have hkz : k < 9223372036854775807 := by omega
  have HK : Hid (k = bn + 1) := hk
  clear hk
  have HW : Hid (∀ v, (w.setCell ⟨wb, 5, none⟩ v).ownsRow B 5 1 (.slice va bs.length vc) bs.length (bs.map byV)) := fun v => ownsRow_of_block H.out.2.2.2.2.1 (fun x hx hv => heap_setCell_other _ _ _ _ (fun e => by
    have e : x = wb := e
    obtain ⟨cur, hc⟩ := own_type H.out.2.2.2.2.1 hv
    rw [e] at hc
    exact absurd (cells_type hc H.out.1) (by decide)))
  go_enter Tryz.func74, Tryz.ntmps74
  go_wp2_with fail
  try rw [hkI]
  obtain ⟨w0, hw0⟩ : ∃ w0, w0 = w.setCell ⟨wb, 5, none⟩ (.int .i64 k) := ⟨_, rfl⟩
  rw [← hw0]
  have HW0 : Hid (w0 = w.setCell ⟨wb, 5, none⟩ (.int .i64 k) ∧ w0.ownsRow B 5 1 (.slice va bs.length vc) bs.length (bs.map byV) ∧ w0.heap.size = w.heap.size) := ⟨hw0, by rw [hw0]; exact HW.out _, by rw [hw0]; simp [World.setCell]⟩
  clear hw0
  go_loopg [6] bs.length (fun g i wr => ∃ m : Nat, i = .int .i64 m ∧ m + g = bs.length ∧ wr.ownsRow B 5 1 (.slice va bs.length vc) bs.length (sgs k m ++ (bs.drop m).map byV) ∧ Kp (fun x => (Value.slice va bs.length vc).ownBlock = some x) w0 wr)
  case atStart => exact ⟨0, rfl, by omega, by simpa [sgs] using HW0.out.2.1, Kp.refl _ _⟩
  case round =>
    obtain ⟨m, rfl, hm, hrow, hkp⟩ := hrel
    by_cases hi : m < bs.length
    · obtain ⟨x, hx⟩ : ∃ x, bs[m]? = some x := ⟨_, List.getElem?_eq_getElem hi⟩
      obtain ⟨g0, rfl, hc1, hc2⟩ := own_some hrow (by omega)
      have e0 := own_at hrow (mid_at (k := k) hx)
      have ef := own_fz hrow m
      have hgl := World.block_lt_of_cell? _ _ e0
      obtain ⟨j, rfl⟩ : ∃ j, gk = j + 1 := ⟨gk - 1, by omega⟩
      have HR : Hid (wr.ownsRow B 5 1 (.slice (some ⟨g0, 0, none⟩) bs.length vc) bs.length (sgs k m ++ (bs.drop m).map byV) ∧ Kp (fun x => (Value.slice (some ⟨g0, 0, none⟩) bs.length vc).ownBlock = some x) w0 wr ∧ bs[m]? = some x) := ⟨hrow, hkp, hx⟩
      clear hrow hkp hx
      go_wp2_with fail
      refine (lSign_at k m m rfl hkz (by omega) _).mono ?_
      rintro y wq ⟨rfl, rfl⟩
      unfold sgV
      go_wp2_with fail
      go_roundg j
      case measure => omega
      case rel => exact ⟨m + 1, by go_num, by omega, by rw [← mid_set HR.out.2.2]; exact (HR.out.1.stored m _).1, Kp.setCell (a := ⟨g0, m, none⟩) HR.out.2.1 (.inl rfl) _⟩
    · have hml : m = bs.length := by omega
      subst hml
      rw [List.drop_length, List.map_nil, List.append_nil] at hrow
      have HR : Hid (wr.ownsRow B 5 1 (.slice va bs.length vc) bs.length (sgs k bs.length) ∧ Kp (fun x => (Value.slice va bs.length vc).ownBlock = some x) w0 wr) := ⟨hrow, hkp⟩
      have hsz : w.heap.size ≤ wr.heap.size := by rw [← HW0.out.2.2]; exact hkp.size
      clear hrow hkp
      obtain ⟨i0, hi0, hz0, hz1, hz2⟩ := info_parts info_u8
      have HB0 : Hid (BMid B k bs.length w0 wr (.slice va bs.length vc) [⟨.slice va bs.length vc, k, bs.length⟩]) := ⟨HR.out.1, fun e he => by simp at he; subst he; exact Rd.of HR.out.1, HR.out.2, fun e he => by simp at he; subst he; exact ⟨rfl, by show bs.length ≤ bs.length + 3; omega⟩, fun e he x hx => by simp at he; subst he; exact .inl hx⟩
      have hBr : B ≤ wr.heap.size := by omega
      go_wp2_with fail
      refine (lSign_at k bs.length bs.length rfl hkz (by omega) _).mono ?_
      rintro y wq ⟨rfl, rfl⟩
      unfold sgV
      go_wp2_with (at_builtin; refine wpList_append_keep _ rfl (.tmp 34) (.tmp 38) 27 rfl B 5 i0 _ 1 1 Tryz.underlying27 hi0 hz0 hz1 hz2 rfl (by decide) (.slice va bs.length vc) bs.length _ (by simp [Act.eval, Act.put]) (HB0.out.row.alloc _) ⟨wq.heap.size, 0, none⟩ 1 1 [.int .u8 (sgB k bs.length : Nat)] (by simp [Act.eval, Act.put]) rfl (by exact news_l (by simp)) (by intro u hu; simp at hu; rcases hu with rfl | rfl | rfl <;> rfl) (by decide) (by unfold maxLen; omega) (by omega) (by simp; omega) _ rfl ?_; intro g1 cap1 w1 hown hgrow hat hlt5)
      have HB1 : Hid (BMid B k bs.length w0 w1 (.slice va bs.length vc) ([⟨.slice va bs.length vc, k, bs.length⟩] ++ [⟨.slice (some ⟨g1, 0, none⟩) (bs.length + 1) cap1, k, bs.length + 1⟩])) := HB0.out.app (sgs_snoc k _).symm hown hgrow hat (by simp) (by simp) (by omega)
      clear hown hgrow hat hlt5
      have hB1 : B ≤ w1.heap.size := by have := HB1.out.kp.size; have := HW0.out.2.2; omega
      go_wp2_with fail
      refine (lSign_at k bs.length bs.length rfl hkz (by omega) _).mono ?_
      rintro y wx ⟨rfl, rfl⟩
      unfold sgV
      go_wp2_with fail
      refine (lSign_at k (bs.length + 1) _ (by omega) hkz (by omega) _).mono ?_
      rintro y wy ⟨rfl, rfl⟩
      unfold sgV
      go_wp2_with (at_builtin; refine wpList_append_keep _ rfl (.tmp 40) (.tmp 48) 27 rfl B 5 i0 _ 1 1 Tryz.underlying27 hi0 hz0 hz1 hz2 rfl (by decide) (.slice va bs.length vc) bs.length _ (by simp [Act.eval, Act.put]) (HB1.out.row.alloc _) ⟨wy.heap.size, 0, none⟩ 2 2 [.int .u8 (sgB k bs.length : Nat), .int .u8 (sgB k (bs.length + 1) : Nat)] (by simp [Act.eval, Act.put]) rfl (by exact news_l (by simp)) (by intro u hu; simp at hu; rcases hu with rfl | rfl | rfl <;> rfl) (by decide) (by unfold maxLen; omega) (by omega) (by simp; omega) _ rfl ?_; intro g2 cap2 w2 hown hgrow hat hlt5)
      have HB2 : Hid (BMid B k bs.length w0 w2 (.slice va bs.length vc) (([⟨.slice va bs.length vc, k, bs.length⟩] ++ [⟨.slice (some ⟨g1, 0, none⟩) (bs.length + 1) cap1, k, bs.length + 1⟩]) ++ [⟨.slice (some ⟨g2, 0, none⟩) (bs.length + 2) cap2, k, bs.length + 2⟩])) := HB1.out.app (sgs_2 k _).symm hown hgrow hat (by simp) (by simp) (by omega)
      clear hown hgrow hat hlt5
      have hB2 : B ≤ w2.heap.size := by have := HB2.out.kp.size; have := HW0.out.2.2; omega
      go_wp2_with fail
      refine (lSign_at k bs.length bs.length rfl hkz (by omega) _).mono ?_
      rintro y wx ⟨rfl, rfl⟩
      unfold sgV
      go_wp2_with fail
      refine (lSign_at k (bs.length + 1) _ (by omega) hkz (by omega) _).mono ?_
      rintro y wz ⟨rfl, rfl⟩
      unfold sgV
      go_wp2_with fail
      refine (lSign_at k (bs.length + 2) _ (by omega) hkz (by omega) _).mono ?_
      rintro y wz2 ⟨rfl, rfl⟩
      unfold sgV
      have hzbl : (bl.length : Int) ≤ 6400000000000 := by omega
      obtain ⟨j0, hj0, jz0, jz1, jz2⟩ := info_parts info_slu8
      obtain ⟨l0, hl0, lz0, lz1, lz2⟩ := info_parts info_int
      go_wp2_with (first
        | (at_builtin; refine wpList_append_keep _ rfl (.tmp 50) (.tmp 62) 27 rfl B 5 i0 _ 1 1 Tryz.underlying27 hi0 hz0 hz1 hz2 rfl (by decide) (.slice va bs.length vc) bs.length _ (by simp [Act.eval, Act.put]) (HB2.out.row.alloc _) ⟨wz2.heap.size, 0, none⟩ 3 3 [.int .u8 (sgB k bs.length : Nat), .int .u8 (sgB k (bs.length + 1) : Nat), .int .u8 (sgB k (bs.length + 2) : Nat)] (by simp [Act.eval, Act.put]) rfl (by exact news_l (by simp)) (by intro u hu; simp at hu; rcases hu with rfl | rfl | rfl <;> rfl) (by decide) (by unfold maxLen; omega) (by omega) (by simp; omega) _ rfl ?_; intro g3 cap3 w3 hown hgrow hat hlt5; have HB3 : Hid (BMid B k bs.length w0 w3 (.slice va bs.length vc) ((([⟨.slice va bs.length vc, k, bs.length⟩] ++ [⟨.slice (some ⟨g1, 0, none⟩) (bs.length + 1) cap1, k, bs.length + 1⟩]) ++ [⟨.slice (some ⟨g2, 0, none⟩) (bs.length + 2) cap2, k, bs.length + 2⟩]) ++ [⟨.slice (some ⟨g3, 0, none⟩) (bs.length + 3) cap3, k, bs.length + 3⟩])) := HB2.out.app (sgs_3 k _).symm hown hgrow hat (by simp) (by simp) (by omega); clear hown hgrow hat hlt5; obtain ⟨HS3, q1, hwl3, hN3⟩ := byt_mid H.out.1 H.out.2.1 H.out.2.2.1 H.out.2.2.2.1 H.out.2.2.2.2.1 H.out.2.2.2.2.2 HW0.out.1 HB3.out hNw HVB)
        | (at_builtin; refine wpList_append_far _ rfl (.tmp 68) (.tmp 73) 31 rfl N 27 j0 _ 1 24 Tryz.underlying31 hj0 jz0 jz1 jz2 rfl (by decide) (.slice ab bl.length cbp) bl.length _ (by simp [Act.eval, Act.put]) (HS3.out.2.1.alloc _) ⟨w3.heap.size, 0, none⟩ 4 4 [.slice va bs.length vc, .slice (some ⟨g1, 0, none⟩) (bs.length + 1) cap1, .slice (some ⟨g2, 0, none⟩) (bs.length + 2) cap2, .slice (some ⟨g3, 0, none⟩) (bs.length + 3) cap3] (by simp [Act.eval, Act.put]) rfl (by exact news_l (by simp)) (by intro u hu; simp at hu; rcases hu with rfl | rfl | rfl | rfl <;> rfl) (by decide) (by unfold maxLen; omega) (by omega) (by simp; omega) _ rfl ?_; intro g4 cap4 w4 hown hgrow hat hlt5; obtain ⟨pb4, pb5, prow, pkp, pg⟩ := put_row (j := 1) HS3.out.1 (by decide) HS3.out.2.1 hown hgrow (by simpa using hat); obtain ⟨s0, s1, s2, s3, s4, s5, sf⟩ := cells6R pb4; rw [HVB.out.1] at s1; have sf1 := sf 1; have hwl4 : wb < w4.heap.size := (Array.getElem?_eq_some_iff.1 pb4).1; have HP : Hid ((w4.setCell ⟨wb, 1, none⟩ (.slice (some ⟨g4, 0, none⟩) (bl.length + 4) cap4)).heap[wb]? = some (.cells #[vl, (.slice (some ⟨g4, 0, none⟩) (bl.length + 4) cap4), vkb, vss, vks, .int .i64 k] 107 (0, 0)) ∧ Kp (fun x => x = wb ∨ (Value.slice ab bl.length cbp).ownBlock = some x) w3 (w4.setCell ⟨wb, 1, none⟩ (.slice (some ⟨g4, 0, none⟩) (bl.length + 4) cap4)) ∧ ((Value.slice ab bl.length cbp).ownBlock = some g4 ∨ w3.heap.size ≤ g4) ∧ (w4.setCell ⟨wb, 1, none⟩ (.slice (some ⟨g4, 0, none⟩) (bl.length + 4) cap4)).ownsRow N 27 1 (.slice (some ⟨g4, 0, none⟩) (bl.length + 4) cap4) (bl.length + 4) (bl.map (·.v) ++ [.slice va bs.length vc, .slice (some ⟨g1, 0, none⟩) (bs.length + 1) cap1, .slice (some ⟨g2, 0, none⟩) (bs.length + 2) cap2, .slice (some ⟨g3, 0, none⟩) (bs.length + 3) cap3]) ∧ (w4.setCell ⟨wb, 1, none⟩ (.slice (some ⟨g4, 0, none⟩) (bl.length + 4) cap4)).ownsRow N 3 1 (.slice ak bl.length ckp) bl.length (bl.map fun e => .int .i64 (e.k : Nat)) ∧ ∀ e ∈ bl ++ ((([⟨.slice va bs.length vc, k, bs.length⟩] ++ [⟨.slice (some ⟨g1, 0, none⟩) (bs.length + 1) cap1, k, bs.length + 1⟩]) ++ [⟨.slice (some ⟨g2, 0, none⟩) (bs.length + 2) cap2, k, bs.length + 2⟩]) ++ [⟨.slice (some ⟨g3, 0, none⟩) (bs.length + 3) cap3, k, bs.length + 3⟩]), Rd (w4.setCell ⟨wb, 1, none⟩ (.slice (some ⟨g4, 0, none⟩) (bl.length + 4) cap4)) e) := ⟨pb5, pkp, pg, prow, byt_two HS3.out pkp HB3.out.rd⟩; have t2 := (cells6R HP.out.1).2.2.1; rw [HVB.out.2] at t2; have hN4 : N ≤ w4.heap.size := (by have := HP.out.2.1.size; simp [World.setCell] at this; omega); clear hown hgrow hat hlt5 pb4 pb5 prow pkp pg s0 s2 s3 s4 s5 sf)
        | (at_builtin; refine wpList_append_lies _ rfl (.tmp 81) (.tmp 86) 37 rfl N 3 l0 _ 1 8 Tryz.underlying37 hl0 lz0 lz1 lz2 rfl (by decide) (.slice ak bl.length ckp) bl.length _ (by simp [Act.eval, Act.put]) (HP.out.2.2.2.2.1.alloc _) ⟨w4.heap.size, 0, none⟩ 4 4 [.int .i64 k, .int .i64 k, .int .i64 k, .int .i64 k] (by simp [Act.eval, Act.put]) rfl (by exact news_l (by simp [World.setCell])) (by intro u hu; simp at hu; subst hu; rfl) (by decide) (by unfold maxLen; omega) (by omega) (by simp [World.setCell]; omega) _ rfl ?_; intro g6 cap6 w6 hown hgrow hat hlt5; obtain ⟨pb6, pb7, prow, pkp, pg⟩ := put_row (j := 2) HP.out.1 (by decide) HP.out.2.2.2.2.1 hown hgrow (by simpa [World.setCell] using hat); obtain ⟨s0, s1, s2, s3, s4, s5, sf⟩ := cells6R pb6; rw [HVB.out.2] at s2; have sf2 := sf 2; have hwl6 : wb < w6.heap.size := (Array.getElem?_eq_some_iff.1 pb6).1; have HQ : Hid ((w6.setCell ⟨wb, 2, none⟩ (.slice (some ⟨g6, 0, none⟩) (bl.length + 4) cap6)).heap[wb]? = some (.cells #[vl, (.slice (some ⟨g4, 0, none⟩) (bl.length + 4) cap4), (.slice (some ⟨g6, 0, none⟩) (bl.length + 4) cap6), vss, vks, .int .i64 k] 107 (0, 0)) ∧ Kp (fun x => x = wb ∨ (Value.slice ak bl.length ckp).ownBlock = some x) (w4.setCell ⟨wb, 1, none⟩ (.slice (some ⟨g4, 0, none⟩) (bl.length + 4) cap4)) (w6.setCell ⟨wb, 2, none⟩ (.slice (some ⟨g6, 0, none⟩) (bl.length + 4) cap6)) ∧ ((Value.slice ak bl.length ckp).ownBlock = some g6 ∨ (w4.setCell ⟨wb, 1, none⟩ (.slice (some ⟨g4, 0, none⟩) (bl.length + 4) cap4)).heap.size ≤ g6) ∧ (w6.setCell ⟨wb, 2, none⟩ (.slice (some ⟨g6, 0, none⟩) (bl.length + 4) cap6)).ownsRow N 3 1 (.slice (some ⟨g6, 0, none⟩) (bl.length + 4) cap6) (bl.length + 4) ((bl.map fun e => .int .i64 (e.k : Nat)) ++ [.int .i64 k, .int .i64 k, .int .i64 k, .int .i64 k])) := ⟨pb7, pkp, pg, prow⟩; clear hown hgrow hat hlt5 pb6 pb7 prow pkp pg s0 s1 s3 s4 s5 sf))
      go_wp2_with fail
      go_end0
      refine ⟨rfl, ?_⟩
      have hk1 := HK.out
      subst hk1
      have hs5 := HP.out.2.1.size
      have hs3 := HB3.out.kp.size
      have hs0 := HW0.out.2.2
      refine ⟨.slice (some ⟨g4, 0, none⟩) (bl.length + 4) cap4, .slice (some ⟨g6, 0, none⟩) (bl.length + 4) cap6, .slice (some ⟨g1, 0, none⟩) (bs.length + 1) cap1, .slice (some ⟨g2, 0, none⟩) (bs.length + 2) cap2, .slice (some ⟨g3, 0, none⟩) (bs.length + 3) cap3, HQ.out.1, ?_, ?_, fun e he => ?_, ?_, ?_⟩
      · have := kp_row HP.out.1 HP.out.2.2.2.2.1 HQ.out.2.1 HP.out.2.2.2.1 (by decide) (by decide)
        simpa [more4] using this
      · simpa [more4] using HQ.out.2.2.2
      · exact kp_rd HP.out.1 HP.out.2.2.2.2.1 (by decide) HQ.out.2.1 (HP.out.2.2.2.2.2 e (by simpa [more4] using he))
      · refine byt_kp (w5 := w4.setCell ⟨wb, 1, none⟩ (.slice (some ⟨g4, 0, none⟩) (bl.length + 4) cap4)) HW0.out.1 HB3.out.kp ?_ ?_
        · rw [HVB.out.1]; exact HP.out.2.1
        · rw [HVB.out.2]; exact HQ.out.2.1
      · have hbb : ∀ e ∈ bl2 va vc bs.length (bn + 1) g1 g2 g3 cap1 cap2 cap3, ∀ y, e.v.ownBlock = some y → (Value.slice va bs.length vc).ownBlock = some y ∨ w.heap.size ≤ y := fun e he y hy => (HB3.out.bl e he y hy).imp id (fun h => by omega)
        refine ⟨fun x hx => ?_, fun x hx => ?_, fun x hx => ?_⟩
        · have hg : g4 = x := by simpa [Value.ownBlock] using hx
          subst hg
          rw [HVB.out.1]
          exact HP.out.2.2.1.imp id (fun h => by omega)
        · have hg : g6 = x := by simpa [Value.ownBlock] using hx
          subst hg
          rw [HVB.out.2]
          exact HQ.out.2.2.1.imp id (fun h => by omega)
        · rcases hx with hx | hx | hx
          · exact hbb ⟨.slice (some ⟨g1, 0, none⟩) (bs.length + 1) cap1, bn + 1, bs.length + 1⟩ (by simp [bl2]) x hx
          · exact hbb ⟨.slice (some ⟨g2, 0, none⟩) (bs.length + 2) cap2, bn + 1, bs.length + 2⟩ (by simp [bl2]) x hx
          · exact hbb ⟨.slice (some ⟨g3, 0, none⟩) (bs.length + 3) cap3, bn + 1, bs.length + 3⟩ (by simp [bl2]) x hx
end Go.Proofs.YtjmcokcdaddpcaaGreatDoor
