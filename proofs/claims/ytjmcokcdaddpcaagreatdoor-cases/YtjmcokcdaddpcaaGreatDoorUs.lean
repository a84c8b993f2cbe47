import Derived.Test.YtjmcokcdaddpcaaGreatDoorUj
import Derived.Test.YtjmcokcdaddpcaaGreatDoorUr
import Derived.Test.YtjmcokcdaddpcaaGreatDoorUo
import Derived.Laws.EntriesVeiled
set_option linter.unusedVariables false
set_option linter.unusedSimpArgs false
namespace Go.Proofs.YtjmcokcdaddpcaaGreatDoor
open Go.RowKit
def settleQ (c : RC) : Nat × RC := if c.bytes.length = 0 then (6, c) else (0, { c with reqs := c.reqs ++ [(c.wr, c.we)], log := c.log ++ c.bytes, bytes := [] })
/-- A case's memory in the midst of Settle: the requests are laid. -/
structure RcM (N : Nat) (w w' : World) (cb : Nat) (c : RC) (a : RA) (vq : Value) : Prop where
  blk : w'.heap[cb]? = some (.cells #[ptrG a.b, vq, a.vl, strV c.wr, strV c.we, a.vb] 240 (0, 0))
  lk : LkAt a.B a.b w' c.l a.s
  rq : w'.ownsRow N 238 2 vq (c.reqs.length + 1) ((c.reqs ++ [(c.wr, c.we)]).flatMap rqC)
  lg : BOwn N w' a.vl c.log
  by_ : BOwn N w' a.vb c.bytes
  kp : Kp (RWr a cb) w w'
  new : ∀ k, vq.ownBlock = some k → a.vq.ownBlock = some k ∨ w.heap.size ≤ k
theorem info_req : (Tryz.prog.info? 238).map (fun i => (i.zero, i.size, i.bytes)) = some (some (.agg #[.string ⟨#[]⟩, .string ⟨#[]⟩]), 2, 32) := by kernel_rfl
theorem after_req {N : Nat} {w w2 : World} {cb : Nat} {c : RC} {a : RA} {g cap : Nat} {o : Obj} (h : RcAt N w cb c a) {aq : Option Addr} {cq : Nat} (hvq : a.vq = .slice aq c.reqs.length cq)
    (hown : w2.ownsRow N 238 2 (.slice (some ⟨g, 0, none⟩) (c.reqs.length + 1) cap) (c.reqs.length + 1) (c.reqs.flatMap rqC ++ [strV c.wr, strV c.we])) (hg : (w.alloc o).grownBy w2 (Value.slice aq c.reqs.length cq).ownBlock) (hat : (Value.slice aq c.reqs.length cq).ownBlock = some g ∨ g = w.heap.size + 1) :
    Hid (RcM N w (w2.setCell ⟨cb, 1, none⟩ (.slice (some ⟨g, 0, none⟩) (c.reqs.length + 1) cap)) cb c a (.slice (some ⟨g, 0, none⟩) (c.reqs.length + 1) cap)) ∧ w2.cell? ⟨cb, 1, none⟩ = some (.slice aq c.reqs.length cq) ∧ w2.frozen? ⟨cb, 1, none⟩ = false ∧ cb < w2.heap.size := by
  rw [← hvq] at hg hat ⊢
  have hcl := h.lt
  have hw2 : ∀ k, k < w.heap.size → a.vq.ownBlock ≠ some k → w2.heap[k]? = w.heap[k]? := fun k hk hn => (hg.block k (by simp; omega) (fun e => hn e.symm)).trans (Below.heap_alloc _ _ _ hk)
  have hs2 : w.heap.size ≤ w2.heap.size := by have := hg.size; simp at this; omega
  have hb2 : w2.heap[cb]? = some (.cells #[ptrG a.b, a.vq, a.vl, strV c.wr, strV c.we, a.vb] 240 (0, 0)) := (hw2 cb hcl h.notCb.2.1).trans h.blk
  obtain ⟨k0, k1, k2, k3, k4, k5, kf⟩ := cells6R hb2
  have hgc : g ≠ cb := by
    rcases hat with e | e
    · exact fun e2 => h.notCb.2.1 (by rw [← e2]; exact e)
    · omega
  have hset : ∀ k, k ≠ cb → (w2.setCell ⟨cb, 1, none⟩ (.slice (some ⟨g, 0, none⟩) (c.reqs.length + 1) cap)).heap[k]? = w2.heap[k]? := fun k hk => heap_setCell_other _ _ _ _ hk
  refine ⟨⟨?_, ?_, ?_, ?_, ?_, ?_, ?_⟩, k1, kf 1, (Array.getElem?_eq_some_iff.1 hb2).1⟩
  · rw [blk_set hb2]
    rfl
  · exact h.lk.same (by simp [World.setCell]; exact hs2) (fun k hk hm => (hset k (fun e => h.notCb.1 (by rw [← e]; exact hm))).trans (hw2 k hk (fun e => (h.notVq e).2.1 hm)))
  · rw [List.flatMap_append]
    refine ownsRow_of_block (by simpa [rqC] using hown) (fun k _ hm => hset k (fun e => ?_))
    cases hm
    exact hgc e
  · exact h.lg.block (fun k hk hm => (hset k (fun e => h.notCb.2.2.1 (by rw [← e]; exact hm))).trans (hw2 k hk (fun e => (h.notVq e).2.2.1 hm)))
  · exact h.by_.block (fun k hk hm => (hset k (fun e => h.notCb.2.2.2 (by rw [← e]; exact hm))).trans (hw2 k hk (fun e => (h.notVq e).2.2.2 hm)))
  · refine Kp.setCell ?_ (.inl (.inl rfl)) _
    exact ⟨hg.os, hg.tape, hg.output, hs2, fun k hk hS => hw2 k hk (fun e => hS (.inr e))⟩
  · intro k hk
    have hgk : g = k := by simpa [Value.ownBlock] using hk
    subst hgk
    rcases hat with e | e
    · exact .inl e
    · right; omega
theorem after_cp {N : Nat} {w wc w3 : World} {cb : Nat} {c : RC} {a : RA} {vq : Value} {g cap : Nat} (HM : Hid (RcM N w wc cb c a vq)) (hown : w3.ownsRow wc.heap.size 5 1 (.slice (some ⟨g, 0, none⟩) (0 + c.log.length) cap) (0 + c.log.length) ([] ++ c.log.map byV)) (hg : wc.grownBy w3 (Value.slice none 0 0).ownBlock) :
    Hid (BOwn wc.heap.size w3 (.slice (some ⟨g, 0, none⟩) c.log.length cap) c.log ∧ Below wc.heap.size wc w3) ∧ w3.cell? ⟨cb, 2, none⟩ = some a.vl ∧ w3.cell? ⟨cb, 5, none⟩ = some a.vb ∧ cb < w3.heap.size ∧ wc.heap.size ≤ w3.heap.size := by
  have hb : Below wc.heap.size wc w3 := (Below.refl _ _).grown hg (Nat.le_refl _) (fun k hk => by cases hk)
  have hcb : cb < wc.heap.size := (Array.getElem?_eq_some_iff.1 HM.out.blk).1
  have hbk := (hb.block cb hcb).trans HM.out.blk
  obtain ⟨k0, k1, k2, k3, k4, k5, kf⟩ := cells6R hbk
  rw [Nat.zero_add, List.nil_append] at hown
  exact ⟨⟨hown, hb⟩, k2, k5, (Array.getElem?_eq_some_iff.1 hbk).1, hb.size⟩
theorem after_set {N : Nat} {w wc w3 w4 : World} {cb : Nat} {c : RC} {a : RA} {vq : Value} {g g4 cap cap4 : Nat} (h : RcAt N w cb c a) (HM : Hid (RcM N w wc cb c a vq)) (H3 : Hid (BOwn wc.heap.size w3 (.slice (some ⟨g, 0, none⟩) c.log.length cap) c.log ∧ Below wc.heap.size wc w3)) (hp : c.bytes.length ≠ 0) (hown : w4.ownsRow wc.heap.size 5 1 (.slice (some ⟨g4, 0, none⟩) (c.log.length + c.bytes.length) cap4) (c.log.length + c.bytes.length) (c.log.map byV ++ c.bytes.map byV)) (hg : w3.grownBy w4 (Value.slice (some ⟨g, 0, none⟩) c.log.length cap).ownBlock) :
    Hid (RStep N w ((w4.setCell ⟨cb, 2, none⟩ (.slice (some ⟨g4, 0, none⟩) (c.log.length + c.bytes.length) cap4)).setCell ⟨cb, 5, none⟩ (.slice none 0 0)) cb c a { c with reqs := c.reqs ++ [(c.wr, c.we)], log := c.log ++ c.bytes, bytes := [] } { a with vq := vq, vl := .slice (some ⟨g4, 0, none⟩) (c.log.length + c.bytes.length) cap4, vb := .slice none 0 0 }) ∧ w4.cell? ⟨cb, 2, none⟩ = some a.vl ∧ w4.cell? ⟨cb, 5, none⟩ = some a.vb ∧ (∀ o, w4.frozen? ⟨cb, o, none⟩ = false) ∧ cb < w4.heap.size := by
  have hb : Below wc.heap.size wc w4 := H3.out.2.grown hg (by have := H3.out.2.size; omega) (fun k hk => (World.ownsRow.lt H3.out.1 k hk).1)
  have hm := HM.out
  have hcb : cb < wc.heap.size := (Array.getElem?_eq_some_iff.1 hm.blk).1
  have hbk := (hb.block cb hcb).trans hm.blk
  obtain ⟨k0, k1, k2, k3, k4, k5, kf⟩ := cells6R hbk
  have hcb4 : cb < w4.heap.size := (Array.getElem?_eq_some_iff.1 hbk).1
  have hset : ∀ k, k ≠ cb → ((w4.setCell ⟨cb, 2, none⟩ (.slice (some ⟨g4, 0, none⟩) (c.log.length + c.bytes.length) cap4)).setCell ⟨cb, 5, none⟩ (.slice none 0 0)).heap[k]? = w4.heap[k]? := fun k hk => by
    rw [heap_setCell_other _ _ _ _ hk, heap_setCell_other _ _ _ _ hk]
  have hT : ∀ {k : Nat} {T : TypeId} {cur : Array Value}, wc.heap[k]? = some (.cells cur T (0, 0)) → T ≠ 240 → k ≠ cb := fun hc ht e => by
    subst e
    exact ht (cells_type hc hm.blk)
  have hkeep : ∀ {k : Nat} {T : TypeId} {cur : Array Value}, wc.heap[k]? = some (.cells cur T (0, 0)) → T ≠ 240 → ((w4.setCell ⟨cb, 2, none⟩ (.slice (some ⟨g4, 0, none⟩) (c.log.length + c.bytes.length) cap4)).setCell ⟨cb, 5, none⟩ (.slice none 0 0)).heap[k]? = wc.heap[k]? := fun hc ht => (hset _ (hT hc ht)).trans (hb.block _ (Array.getElem?_eq_some_iff.1 hc).1)
  have hsz : ((w4.setCell ⟨cb, 2, none⟩ (.slice (some ⟨g4, 0, none⟩) (c.log.length + c.bytes.length) cap4)).setCell ⟨cb, 5, none⟩ (.slice none 0 0)).heap.size = w4.heap.size := by simp [World.setCell]
  have hg4 := (World.ownsRow.lt hown g4 rfl)
  have hNw : N ≤ wc.heap.size := by have := h.low.1; have := h.lt; have := hm.kp.size; omega
  have hbo := h.ok.bo
  refine ⟨⟨⟨?_, ?_, ?_, ?_, World.ownsRow_nil _ _ _ _, h.low, ⟨h.ok.sm, ?_, ?_, ?_, by simp, h.ok.wrl, h.ok.wel, ?_, .inl rfl⟩⟩, ?_, ?_⟩, k2, k5, kf, hcb4⟩
  · rw [blk_set (blk_set hbk _ _) _ _]
    rfl
  · exact hm.lk.same (by rw [hsz]; exact hb.size) (fun k hk hmn => by
      obtain ⟨cur, T, hc, ht⟩ := hm.lk.type hmn
      exact hkeep hc (by rcases ht with rfl | rfl | rfl | rfl | rfl <;> decide))
  · show World.ownsRow _ _ _ _ _ (c.reqs ++ [(c.wr, c.we)]).length _
    rw [List.length_append]
    exact ownsRow_of_block hm.rq (fun k hk hv => by
      obtain ⟨cur, hc⟩ := own_type hm.rq hv
      exact hkeep hc (by decide))
  · show World.ownsRow _ _ _ _ _ (c.log ++ c.bytes).length ((c.log ++ c.bytes).map byV)
    rw [List.length_append, List.map_append]
    exact ownsRow_of_block (own_mono hown hNw) (fun k hk hv => hset k (fun e => by have hgk : g4 = k := (by simpa [Value.ownBlock] using hv); omega))
  · show (c.reqs ++ [(c.wr, c.we)]).length ≤ 200
    have := h.ok.sz
    simp
    omega
  · show (c.log ++ c.bytes).length ≤ 2000
    simp
    omega
  · show 8 ≤ (c.log ++ c.bytes).length
    have := h.ok.lo
    simp
    omega
  · show 16 * (c.reqs ++ [(c.wr, c.we)]).length + 8 ≤ (c.log ++ c.bytes).length
    have := h.ok.sz
    simp
    omega
  · exact ((hm.kp.ofBelow hb).setCell (.inl (.inl rfl)) _).setCell (.inl (.inl rfl)) _
  · intro k hk
    rcases hk with rfl | hk | hk | hk | hk
    · exact .inl (.inl rfl)
    · exact .inl (.inr (.inl hk))
    · rcases hm.new k hk with h1 | h1
      · exact .inl (.inr (.inr (.inl h1)))
      · exact .inr h1
    · right
      have hgk : g4 = k := by simpa [Value.ownBlock] using hk
      have := hm.kp.size
      omega
    · cases hk
set_option maxRecDepth 100000 in
set_option maxHeartbeats 3200000 in
theorem rcSettle_any {N : Nat} {w : World} {cb : Nat} {c : RC} {a : RA} (h : RcAt N w cb c a) :
    Calls Tryz.prog 125 #[ptr cb] w fun x w' => x = .returned (.int .i64 ((settleQ c).1 : Nat)) ∧ ∃ a', RStep N w w' cb c a (settleQ c).2 a' := by
  have H : Hid (RcAt N w cb c a) := h
  obtain ⟨k0, k1, k2, k3, k4, k5, kf⟩ := cells6R h.blk
  have hcl := h.lt
  obtain ⟨ab, cbp, hvb⟩ := owned_shape h.by_
  obtain ⟨al, cl, hvl⟩ := owned_shape h.lg
  obtain ⟨aq, cq, hvq⟩ := owned_shape h.rq
  have HV : Hid (a.vb = .slice ab c.bytes.length cbp ∧ a.vl = .slice al c.log.length cl ∧ a.vq = .slice aq c.reqs.length cq) := ⟨hvb, hvl, hvq⟩
  rw [hvb] at k5
  rw [hvl] at k2
  rw [hvq] at k1
  have hzb : (c.bytes.length : Int) ≤ 100 := by have := h.ok.by_; omega
  have hzl : (c.log.length : Int) ≤ 2000 ∧ (8 : Int) ≤ c.log.length := by have := h.ok.lg; have := h.ok.lo; omega
  have hzq : (c.reqs.length : Int) ≤ 200 := by have := h.ok.rq; omega
  clear h hvb hvl hvq
  go_enter Tryz.func125, Tryz.ntmps125
  by_cases h1 : c.bytes.length = 0
  · have HQ : Hid (settleQ c = (6, c)) := if_pos h1
    have h1' : ((c.bytes.length : Int) == 0) = true := by rw [beq_iff_eq]; omega
    clear h1
    go_wp2_with fail
    go_ret
    rw [HQ.out]
    exact ⟨rfl, a, RStep.same H.out (Below.refl _ _)⟩
  · have HQ : Hid (settleQ c = (0, { c with reqs := c.reqs ++ [(c.wr, c.we)], log := c.log ++ c.bytes, bytes := [] })) := if_neg h1
    have h1' : ((c.bytes.length : Int) == 0) = false := by rw [beq_eq_false_iff_ne]; omega
    have hpos : 0 < c.bytes.length := by omega
    clear h1
    obtain ⟨i0, hi, hz0, hz1, hz2⟩ := info_parts info_req
    have HO : Hid (∀ o, (w.alloc o).ownsRow N 238 2 (.slice aq c.reqs.length cq) c.reqs.length (c.reqs.flatMap rqC)) := fun o => by
      have := H.out.rq
      rw [HV.out.2.2] at this
      exact this.alloc o
    have hNw : N ≤ w.heap.size := by have := H.out.low.1; omega
    have kA : ∀ o j v, w.cell? ⟨cb, j, none⟩ = some v → (w.alloc o).cell? ⟨cb, j, none⟩ = some v := fun o j v hv => ((below_alloc1' o).cell (p := ⟨cb, j, none⟩) hcl).trans hv
    have a1 := fun o => kA o 1 _ k1
    have a3 := fun o => kA o 3 _ k3
    have a4 := fun o => kA o 4 _ k4
    go_wp2_with fail
    go_cut [] from 4 (fun wd => ∃ vq, RcM N w wd cb c a vq)
    case first =>
      go_region_law (refine step_append_lies _ rfl (.tmp 14) (.tmp 19) 236 rfl N 238 i0 _ 2 32 Tryz.underlying236 hi hz0 hz1 hz2 rfl (by decide) (.slice aq c.reqs.length cq) c.reqs.length _ (by simp [Act.eval, Act.put]) (by first | exact HO.out _ | exact (HO.out _).drew) ⟨w.heap.size, 0, none⟩ 1 1 [strV c.wr, strV c.we] (by simp [Act.eval, Act.put]) rfl (by exact news_l (by simp)) (by intro u hu; simp at hu; rcases hu with rfl | rfl <;> rfl) (by decide) (by unfold maxLen; omega) (by omega) (by simp; omega) _ rfl ?_; intro g cap w2 hown hgrow hat hlt1; obtain ⟨HM, e7, f7, hlt7⟩ := after_req H.out HV.out.2.2 hown (grownD hgrow) (by simpa using hat); clear hown hgrow hat)
      all_goals
        go_wp2_with fail
        go_meet
        case rel => exact ⟨_, HM.out⟩
    case rest =>
      obtain ⟨vq, hm⟩ := hcut
      obtain ⟨j0, hj, y0, y1, y2⟩ := info_parts info_u8
      clear k0 k1 k2 k3 k4 k5 kf a1 a3 a4 kA
      obtain ⟨k0, k1, k2, k3, k4, k5, kf⟩ := cells6R hm.blk
      rw [HV.out.2.1] at k2
      rw [HV.out.1] at k5
      have hcl2 : cb < wc.heap.size := (Array.getElem?_eq_some_iff.1 hm.blk).1
      have HM : Hid (RcM N w wc cb c a vq) := hm
      clear hm
      have hlg : wc.ownsRow N 5 1 (.slice al c.log.length cl) c.log.length (c.log.map byV) := by have := HM.out.lg; rw [HV.out.2.1] at this; exact this
      have hbg : wc.ownsRow N 5 1 (.slice ab c.bytes.length cbp) c.bytes.length (c.bytes.map byV) := by have := HM.out.by_; rw [HV.out.1] at this; exact this
      obtain ⟨gl, rfl, hcl3, hcl4⟩ := own_some hlg (by omega)
      obtain ⟨gb, rfl, hcb3, hcb4⟩ := own_some hbg hpos
      have HLG : Hid (wc.ownsRow N 5 1 (.slice (some ⟨gl, 0, none⟩) c.log.length cl) c.log.length (c.log.map byV) ∧ wc.ownsRow N 5 1 (.slice (some ⟨gb, 0, none⟩) c.bytes.length cbp) c.bytes.length (c.bytes.map byV)) := ⟨hlg, hbg⟩
      clear hlg hbg
      have hlpos : 0 < c.log.length := by omega
      go_wp2_with (first
        | (at_builtin; refine wpList_append_lies _ rfl (.tmp 23) (.tmp 27) 27 rfl wc.heap.size 5 j0 _ 1 1 Tryz.underlying27 hj y0 y1 y2 rfl (by decide) (.slice none 0 0) 0 [] (by simp [Act.eval, Act.put]) (World.ownsRow_nil _ _ _ _) ⟨gl, 0, none⟩ c.log.length cl (c.log.map byV) (by simp [Act.eval, Act.put]) (by simp) (fun j u hu => World.ownsRow.cells HLG.out.1 (g := gl) rfl j u hu) (by intro u hu; obtain ⟨x, hx, rfl⟩ := List.mem_map.1 hu; rfl) hlpos (by unfold maxLen; omega) (by omega) (by omega) _ rfl ?_; intro g3 cap3 w3 hown hgrow hat hlt5; obtain ⟨H3, x2, x5, x6, hw3⟩ := after_cp HM hown hgrow; rw [HV.out.2.1] at x2; rw [HV.out.1] at x5; clear hown hgrow hat hlt5; have HB3 : Hid (w3.ownsRow N 5 1 (.slice (some ⟨gb, 0, none⟩) c.bytes.length cbp) c.bytes.length (c.bytes.map byV)) := ownsRow_of_block HLG.out.2 (fun k hk _ => H3.out.2.block k hk))
        | (at_builtin; refine wpList_append_lies _ rfl (.tmp 30) (.tmp 34) 27 rfl wc.heap.size 5 j0 _ 1 1 Tryz.underlying27 hj y0 y1 y2 rfl (by decide) (.slice (some ⟨g3, 0, none⟩) c.log.length cap3) c.log.length (c.log.map byV) (by simp [Act.eval, Act.put]) H3.out.1 ⟨gb, 0, none⟩ c.bytes.length cbp (c.bytes.map byV) (by simp [Act.eval, Act.put]) (by simp) (fun j u hu => World.ownsRow.cells HB3.out (g := gb) rfl j u hu) (by intro u hu; obtain ⟨x, hx, rfl⟩ := List.mem_map.1 hu; rfl) hpos (by unfold maxLen; omega) (by omega) hw3 _ rfl ?_; intro g4 cap4 w4 hown hgrow hat hlt5; obtain ⟨HF, z2, z5, zf, z6⟩ := after_set H.out HM H3 (by omega) hown hgrow; rw [HV.out.2.1] at z2; rw [HV.out.1] at z5; clear hown hgrow hat hlt5))
      go_wp2_with fail
      go_ret
      rw [HQ.out]
      exact ⟨rfl, _, HF.out⟩
end Go.Proofs.YtjmcokcdaddpcaaGreatDoor
set_option linter.unusedVariables false
set_option linter.unusedSimpArgs false
namespace Go.Proofs.YtjmcokcdaddpcaaGreatDoor
open Go.RowKit
def evPtr (es : List Dsr.Ev) (a : SA) (n : List UInt8) : Value := if n ∈ nms es then ptr (ebOf (nms es) a.eb n) else .pointer none
theorem own_someS {w : World} {B : Nat} {e : TypeId} {m n c : Nat} {a : Option Addr} {xs : List Value} (h : w.ownsRow B e m (.slice a n c) n xs) (hn : 0 < n) : ∃ g, a = some ⟨g, 0, none⟩ ∧ n ≤ c ∧ c ≤ maxLen := by
  rcases h.2 with ⟨_, h1⟩ | ⟨g, c', cur, h1, _, h2, h3, h4, _⟩
  · omega
  · injection h1 with h1 h5 h6
    subst h6
    exact ⟨g, h1, h3, h4⟩
section
variable {N : Nat} {w : World} {es : List Dsr.Ev} {rs : List Dsr.Rl} {a : SA}
theorem StAt.shapes (h : StAt N w es rs a) : ∃ ae ce ar cr, a.ve = .slice ae es.length ce ∧ a.vr = .slice ar rs.length cr := by
  have h0 : w.ownsRow N 175 1 a.ve es.length (a.eb.map ptr) := h.rows.own ⟨a.ve, 175, 1, es.length, a.eb.map ptr⟩ (by simp [stRows])
  have h1 : w.ownsRow N 180 3 a.vr rs.length (rs.flatMap (ruS (nms es) a.eb)) := h.rows.own ⟨a.vr, 180, 3, rs.length, rs.flatMap (ruS (nms es) a.eb)⟩ (by simp [stRows])
  obtain ⟨ae, ce, e0⟩ := owned_shape h0
  obtain ⟨ar, cr, e1⟩ := owned_shape h1
  exact ⟨ae, ce, ar, cr, e0, e1⟩
theorem StAt.own0 (h : StAt N w es rs a) : w.ownsRow N 175 1 a.ve es.length (a.eb.map ptr) := h.rows.own ⟨a.ve, 175, 1, es.length, a.eb.map ptr⟩ (by simp [stRows])
theorem StAt.own1 (h : StAt N w es rs a) : w.ownsRow N 180 3 a.vr rs.length (rs.flatMap (ruS (nms es) a.eb)) := h.rows.own ⟨a.vr, 180, 3, rs.length, rs.flatMap (ruS (nms es) a.eb)⟩ (by simp [stRows])
/-- The pointer number i, and the cells that it points to. -/
theorem StAt.evAt (h : StAt N w es rs a) {ae : Option Addr} {ce : Nat} (hv : a.ve = .slice ae es.length ce) {i : Nat} {e : Dsr.Ev} (he : es[i]? = some e) :
    ∃ g b v, ae = some ⟨g, 0, none⟩ ∧ es.length ≤ ce ∧ ce ≤ maxLen ∧ a.eb[i]? = some b ∧ a.rv[i]? = some v ∧ w.cell? ⟨g, i, none⟩ = some (ptr b) ∧ b < w.heap.size ∧ w.heap[b]? = some (evB e v) := by
  have hi : i < es.length := (List.getElem?_eq_some_iff.1 he).1
  have h0 := h.own0
  rw [hv] at h0
  obtain ⟨g, rfl, h1, h2⟩ := own_someS h0 (by omega)
  have hb : a.eb[i]? = some (a.eb[i]'(by rw [h.len]; exact hi)) := List.getElem?_eq_getElem _
  have hvv : a.rv[i]? = some (a.rv[i]'(by rw [h.rlen]; exact hi)) := List.getElem?_eq_getElem _
  refine ⟨g, _, _, rfl, h1, h2, hb, hvv, own_cellS h0 (by rw [List.getElem?_map, hb]; rfl), (h.ebLt (List.mem_of_getElem? hb)).2, h.ev _ _ _ _ he hb hvv⟩
theorem evB_cells {b : Nat} {e : Dsr.Ev} {v : Value} (h : w.heap[b]? = some (evB e v)) : w.cell? ⟨b, 0, none⟩ = some (strV e.name) ∧ w.cell? ⟨b, 1, none⟩ = some v ∧ w.cell? ⟨b, 2, none⟩ = some (.bool e.done) ∧ w.cell? ⟨b, 3, none⟩ = some (.bool e.inn) ∧ w.cell? ⟨b, 4, none⟩ = some (.bool e.due) ∧ ∀ o, w.frozen? ⟨b, o, none⟩ = false := by
  refine ⟨?_, ?_, ?_, ?_, ?_, fun o => ?_⟩ <;> simp [World.cell?, World.frozen?, h, evB]
theorem names_snoc {n : List UInt8} {i : Nat} {e : Dsr.Ev} (he : es[i]? = some e) (hn : e.name ≠ n) (h : n ∉ nms (es.take i)) : n ∉ nms (es.take (i + 1)) := by
  rw [List.take_add_one, he]
  simp only [nms, List.map_append, List.mem_append, not_or]
  exact ⟨h, by simp; exact fun e => hn e.symm⟩
set_option maxRecDepth 100000 in
set_option maxHeartbeats 1600000 in
theorem find_any (h : StAt N w es rs a) (hg : GOk es rs) (n : List UInt8) :
    Calls Tryz.prog 85 #[ptr a.sb, strV n] w fun x w' => x = .returned (evPtr es a n) ∧ Below w.heap.size w w' := by
  obtain ⟨ae, ce, ar, cr, hve, hvr⟩ := h.shapes
  have hblk := h.blk
  rw [hve, hvr] at hblk
  obtain ⟨c0, c1, fz⟩ := cells2 hblk
  have H : Hid (StAt N w es rs a ∧ a.ve = .slice ae es.length ce ∧ GOk es rs) := ⟨h, hve, hg⟩
  have hz : (es.length : Int) ≤ 1000 := by have := hg.esl; omega
  have hsb := h.sbLt.2
  clear h hg hve hvr hblk
  go_enter Tryz.func85, Tryz.ntmps85
  go_wp2_with fail
  go_loopg [12] es.length (fun k i wr => ∃ m : Nat, i = .int .i64 m ∧ m + k = es.length ∧ n ∉ nms (es.take m) ∧ Below w.heap.size w wr)
  case atStart => exact ⟨0, rfl, by omega, by simp [nms], Below.refl _ _⟩
  case round =>
    obtain ⟨m, rfl, hm, hnn, hb⟩ := hrel
    by_cases hlt : m < es.length
    · obtain ⟨e, he⟩ : ∃ e, es[m]? = some e := ⟨_, List.getElem?_eq_getElem hlt⟩
      obtain ⟨g, b, v, rfl, h1, h2, hb1, hv1, d0, hbl, hbk⟩ := (H.out.1.below hb).evAt H.out.2.1 he
      obtain ⟨e0, e1, e2, e3, e4, ef⟩ := evB_cells hbk
      have HH : Hid (es[m]? = some e ∧ a.eb[m]? = some b ∧ n ∉ nms (es.take m) ∧ Below w.heap.size w wr) := ⟨he, hb1, hnn, hb⟩
      clear hb hnn he hb1 hv1 hbk e1 e2 e3 e4
      by_cases hen : e.name = n
      · have HE : Hid (e.name = n) := hen
        rw [hen] at e0
        clear hen
        go_wp2_with fail
        go_ret
        refine ⟨?_, HH.out.2.2.2⟩
        have hmem : n ∈ nms es := List.mem_map.2 ⟨e, List.mem_of_getElem? HH.out.1, HE.out⟩
        unfold evPtr
        rw [if_pos hmem]
        unfold ebOf
        rw [idx_of H.out.2.2.nodup HH.out.1 HE.out, List.getD_eq_getElem?_getD, HH.out.2.1]
        rfl
      · have HE : Hid (¬ e.name = n) := hen
        have hs : (e.name == n) = false := by simpa using hen
        clear hen
        go_wp2_with fail
        go_roundg (es.length - (m + 1))
        case measure => omega
        case rel => exact ⟨m + 1, by go_num, by omega, names_snoc HH.out.1 HE.out HH.out.2.2.1, HH.out.2.2.2⟩
    · have HH : Hid (n ∉ nms es ∧ Below w.heap.size w wr) := ⟨by rw [List.take_of_length_le (by omega)] at hnn; exact hnn, hb⟩
      clear hb hnn
      go_wp2_with fail
      go_ret
      exact ⟨by unfold evPtr; rw [if_neg HH.out.1]; rfl, HH.out.2⟩
end
end Go.Proofs.YtjmcokcdaddpcaaGreatDoor
set_option linter.unusedVariables false
set_option linter.unusedSimpArgs false
namespace Go.Proofs.YtjmcokcdaddpcaaGreatDoor
open Go.RowKit
theorem contains_snoc {ts : List (List UInt8)} {x t : List UInt8} {i : Nat} (h : ts[i]? = some t) (hx : ¬ x = t) (hc : (ts.take i).contains x = false) : (ts.take (i + 1)).contains x = false := by
  rw [List.take_add_one, h]
  simp only [List.contains_eq_mem, decide_eq_false_iff_not, List.mem_append, not_or] at hc ⊢
  exact ⟨hc, by simp; exact hx⟩
set_option maxRecDepth 100000 in
set_option maxHeartbeats 1600000 in
theorem slIndex_any {w : World} {B : Nat} {v : Value} (ts : List (List UInt8)) (h : w.ownsRow B 9 1 v ts.length (ts.map strV)) (hl : ts.length ≤ 1000) (x : List UInt8) :
    Calls Tryz.prog 131 #[v, strV x] w fun y w' => (∃ i : Int, y = .returned (.int .i64 i) ∧ decide (0 ≤ i) = ts.contains x) ∧ Below w.heap.size w w' := by
  obtain ⟨va, vc, rfl⟩ := owned_shape h
  have H : Hid (w.ownsRow B 9 1 (.slice va ts.length vc) ts.length (ts.map strV)) := h
  have hz : (ts.length : Int) ≤ 1000 := by omega
  clear h
  go_enter Tryz.func131, Tryz.ntmps131
  go_wp2_with fail
  go_loopg [8] ts.length (fun k i wr => ∃ m : Nat, i = .int .i64 m ∧ m + k = ts.length ∧ (ts.take m).contains x = false ∧ Below w.heap.size w wr)
  case atStart => exact ⟨0, rfl, by omega, rfl, Below.refl _ _⟩
  case round =>
    obtain ⟨m, rfl, hm, hnn, hb⟩ := hrel
    by_cases hlt : m < ts.length
    · obtain ⟨t, ht⟩ : ∃ t, ts[m]? = some t := ⟨_, List.getElem?_eq_getElem hlt⟩
      obtain ⟨g, rfl, h1, h2⟩ := own_someS H.out (by omega)
      have d0 : wr.cell? ⟨g, m, none⟩ = some (strV t) := by
        have c := own_cellS H.out (j := m) (u := strV t) (by rw [List.getElem?_map, ht]; rfl)
        rw [hb.cell (World.block_lt_of_cell? _ _ c)]
        exact c
      have HH : Hid (ts[m]? = some t ∧ (ts.take m).contains x = false ∧ Below w.heap.size w wr) := ⟨ht, hnn, hb⟩
      clear hb hnn ht
      by_cases hen : x = t
      · subst hen
        go_wp2_with fail
        go_ret
        exact ⟨⟨m, rfl, by rw [List.contains_iff_mem.2 (List.mem_of_getElem? HH.out.1)]; simp⟩, HH.out.2.2⟩
      · have HE : Hid (¬ x = t) := hen
        have hs : (x == t) = false := by simpa using hen
        clear hen
        go_wp2_with fail
        go_roundg (ts.length - (m + 1))
        case measure => omega
        case rel => exact ⟨m + 1, by go_num, by omega, contains_snoc HH.out.1 HE.out HH.out.2.1, HH.out.2.2⟩
    · have HH : Hid (ts.contains x = false ∧ Below w.heap.size w wr) := ⟨by rw [List.take_of_length_le (by omega)] at hnn; exact hnn, hb⟩
      clear hb hnn
      go_wp2_with fail
      go_ret
      exact ⟨⟨-1, rfl, by rw [HH.out.1]; rfl⟩, HH.out.2⟩
set_option maxRecDepth 100000 in
set_option maxHeartbeats 1600000 in
theorem slContains_any {w : World} {B : Nat} {v : Value} (ts : List (List UInt8)) (h : w.ownsRow B 9 1 v ts.length (ts.map strV)) (hl : ts.length ≤ 1000) (x : List UInt8) :
    Calls Tryz.prog 86 #[v, strV x] w fun y w' => y = .returned (.bool (ts.contains x)) ∧ Below w.heap.size w w' := by
  obtain ⟨va, vc, rfl⟩ := owned_shape h
  have H : Hid (w.ownsRow B 9 1 (.slice va ts.length vc) ts.length (ts.map strV)) := h
  clear h
  go_enter Tryz.func86, Tryz.ntmps86
  go_wp2_with fail
  refine (slIndex_any ts H.out hl x).mono ?_
  rintro e w1 ⟨⟨i, rfl, hi⟩, hb⟩
  have HB : Hid (Below w.heap.size w w1 ∧ decide (0 ≤ i) = ts.contains x) := ⟨hb, hi⟩
  clear hb hi
  go_wp2_with fail
  go_ret
  exact ⟨ret_bool (by rw [← HB.out.2]), HB.out.1⟩
section
variable {W : World} {b : Nat} {e : Dsr.Ev} {v : Value}
set_option maxRecDepth 100000 in
theorem evUndone_any (h : W.heap[b]? = some (evB e v)) : Calls Tryz.prog 173 #[ptr b] W fun x w' => x = .returned (.bool (e.inn && !e.done)) ∧ Below W.heap.size W w' := by
  have hlt : b < W.heap.size := (Array.getElem?_eq_some_iff.1 h).1
  obtain ⟨e0, e1, e2, e3, e4, ef⟩ := evB_cells h
  clear h
  obtain ⟨nm, ro, dn, i, du⟩ := e
  cases i <;> cases dn <;> (go_enter Tryz.func173, Tryz.ntmps173; go_wp2_with fail; go_ret; exact ⟨rfl, Below.refl _ _⟩)
set_option maxRecDepth 100000 in
theorem evWanted_any (h : W.heap[b]? = some (evB e v)) : Calls Tryz.prog 94 #[ptr b] W fun x w' => x = .returned (.bool (e.inn && e.due)) ∧ Below W.heap.size W w' := by
  have hlt : b < W.heap.size := (Array.getElem?_eq_some_iff.1 h).1
  obtain ⟨e0, e1, e2, e3, e4, ef⟩ := evB_cells h
  clear h
  obtain ⟨nm, ro, dn, i, du⟩ := e
  cases i <;> cases du <;> (go_enter Tryz.func94, Tryz.ntmps94; go_wp2_with fail; go_ret; exact ⟨rfl, Below.refl _ _⟩)
set_option maxRecDepth 100000 in
theorem evHarmless_any : Calls Tryz.prog 174 #[ptr b] W fun x w' => x = .returned (.bool false) ∧ Below W.heap.size W w' := by
  go_enter Tryz.func174, Tryz.ntmps174
  go_wp2_with fail
  go_ret
  exact ⟨rfl, Below.refl _ _⟩
end
end Go.Proofs.YtjmcokcdaddpcaaGreatDoor
