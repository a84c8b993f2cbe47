import Derived.Test.YtjmcokcdaddpcaaGreatDoorUv
import Derived.Test.YtjmcokcdaddpcaaGreatDoorUu
set_option linter.unusedVariables false
set_option linter.unusedSimpArgs false
namespace Go.Proofs.YtjmcokcdaddpcaaGreatDoor
open Go.RowKit
section
variable {wz : World} {N : Nat} {w w' : World} {ω : Nat → Nat} {s : WS}
theorem Kp.ofB (h : Below w.heap.size w w') : Kp (fun _ => False) w w' := (Kp.refl _ _).ofBelow h
/-- Memory that is made aside. -/
theorem inv_below (h : WInv wz N w ω s) (hb : Below w.heap.size w w') (q : Nat → Nat) : WInv wz N w' (ownN w ω q) s := by
  have hB := h.bk
  have hwl : s.wb < w.heap.size := (Array.getElem?_eq_some_iff.1 hB.blk).1
  have h10 := hB.wb10
  refine ⟨hB.below hb, ownsRow_of_block h.lr (fun k hk _ => hb.block k hk), h.ap, ?_, ?_, ?_, ?_, h.sg.below hb, Nat.le_trans h.NL hb.size, h.pn, fl_own h.fl h.NL, h.fr.trans (hb.mono h.NL)⟩
  · intro k hk
    have hlt : k < w.heap.size := by
      rcases hk with rfl | hk | hk | hk | hk | hk
      · exact hwl
      · exact (h.lr.lt k hk).2
      · exact (hB.bs.lt k hk).2
      · exact (hB.kb.lt k hk).2
      · exact (hB.ss.lt k hk).2
      · exact (hB.ks.lt k hk).2
    rw [ownN_old hlt]
    exact h.o1 k hk
  · intro e he k hk
    have hlt : k < w.heap.size := by
      rcases List.mem_append.1 he with he | he
      · obtain ⟨c, hc⟩ := (hB.rd e he).type hk; exact (Array.getElem?_eq_some_iff.1 hc).1
      · obtain ⟨c, hc⟩ := (hB.rs e he).type hk; exact (Array.getElem?_eq_some_iff.1 hc).1
    rw [ownN_old hlt]
    exact h.o2 e he k hk
  · intro i p hp
    exact (h.pr i p hp).kept (Kp.ofB hb) (fun k hf _ => hf.elim) q
  · intro k hk
    rw [ownN_old (by omega)]
    exact h.g0 k hk
/-- A row of the world's block, of whatever size of its elements. -/
theorem put_rowM {w w2 : World} {N wb j n m g cap z : Nat} {T : TypeId} {cs : Array Value} {v : Value} {xs news : List Value} {o : Obj} (hblk : w.heap[wb]? = some (.cells cs 107 (0, 0))) (hT : T ≠ 107) (hv : w.ownsRow N T z v n xs) (hown : w2.ownsRow N T z (.slice (some ⟨g, 0, none⟩) (n + m) cap) (n + m) (xs ++ news)) (hg : (w.alloc o).grownBy w2 v.ownBlock) (hat : v.ownBlock = some g ∨ g = w.heap.size + 1) :
    w2.heap[wb]? = some (.cells cs 107 (0, 0)) ∧ (w2.setCell ⟨wb, j, none⟩ (.slice (some ⟨g, 0, none⟩) (n + m) cap)).heap[wb]? = some (.cells (cs.setIfInBounds j (.slice (some ⟨g, 0, none⟩) (n + m) cap)) 107 (0, 0)) ∧ (w2.setCell ⟨wb, j, none⟩ (.slice (some ⟨g, 0, none⟩) (n + m) cap)).ownsRow N T z (.slice (some ⟨g, 0, none⟩) (n + m) cap) (n + m) (xs ++ news) ∧ Kp (fun x => x = wb ∨ v.ownBlock = some x) w (w2.setCell ⟨wb, j, none⟩ (.slice (some ⟨g, 0, none⟩) (n + m) cap)) ∧ (v.ownBlock = some g ∨ w.heap.size ≤ g) := by
  have hwl : wb < w.heap.size := (Array.getElem?_eq_some_iff.1 hblk).1
  have hnv : v.ownBlock ≠ some wb := fun e => by
    obtain ⟨cur, hc⟩ := own_type hv e
    exact hT (cells_type hc hblk)
  have hb2 : w2.heap[wb]? = some (.cells cs 107 (0, 0)) := (hg.block wb (by simp; omega) (fun e => hnv e.symm)).trans ((Below.heap_alloc _ _ _ hwl).trans hblk)
  have hgw : g ≠ wb := by
    rcases hat with e | e
    · exact fun e2 => hnv (by rw [← e2]; exact e)
    · omega
  refine ⟨hb2, blk_set hb2 _ _, ownsRow_of_block hown (fun x hx hx2 => heap_setCell_other _ _ _ _ (fun e => ?_)), ?_, hat.imp id (fun e => by omega)⟩
  · cases hx2
    exact hgw e
  · refine Kp.setCell (a := ⟨wb, j, none⟩) ?_ (.inl (.inl rfl)) _
    exact ⟨hg.os, hg.tape, hg.output, by have := hg.size; simp at this; omega, fun x hx hS => (hg.block x (by simp; omega) (fun e => hS (.inr e.symm))).trans (Below.heap_alloc _ _ _ hx)⟩
/-- A pair more. -/
theorem inv_pair (h : WInv wz N w ω s) {vl' : Value} {p : PSt} (hp : PairOk w ω s.ps.length p) (hblk : w'.heap[s.wb]? = some (.cells #[vl', s.vbs, s.vkb, s.vss, s.vks, .int .i64 s.bn] 107 (0, 0))) (hrow : w'.ownsRow N 159 4 vl' (s.ps.length + 1) (s.ps.flatMap prC ++ prC p)) (hkp : Kp (fun x => x = s.wb ∨ s.vl.ownBlock = some x) w w') (hvl : ∀ k, vl'.ownBlock = some k → s.vl.ownBlock = some k ∨ w.heap.size ≤ k) (hpn : s.ps.length + 1 ≤ s.bn) :
    ∃ ω', WInv wz N w' ω' { s with vl := vl', ps := s.ps ++ [p] } := by
  have hB := h.bk
  have hwl : s.wb < w.heap.size := (Array.getElem?_eq_some_iff.1 hB.blk).1
  have h10 := hB.wb10
  have hT : ∀ {k : Nat} {T : TypeId} {cur : Array Value}, w.heap[k]? = some (.cells cur T (0, 0)) → T ≠ 107 → T ≠ 159 → ¬ (k = s.wb ∨ s.vl.ownBlock = some k) := fun hc t1 t2 hS => by
    rcases hS with rfl | hS
    · exact t1 (cells_type hc hB.blk)
    · obtain ⟨c2, h2⟩ := own_type h.lr hS; exact t2 (cells_type hc h2)
  have hSo : ∀ k, k = s.wb ∨ s.vl.ownBlock = some k → ω k = 1 := fun k hk => h.o1 k (hk.elim .inl (fun h => .inr (.inl h)))
  have h0k : ∀ k, k < 5 → w'.heap[k]? = w.heap[k]? := fun k hk => hkp.block k (by omega) (fun hS => by
    have := h.g0 k hk
    have := hSo k hS
    omega)
  have hbl : ∀ {v : Value} {n : Nat} {T : TypeId} {xs : List Value}, w.ownsRow N T 1 v n xs → T ≠ 107 → T ≠ 159 → w'.ownsRow N T 1 v n xs := fun hv t1 t2 => ownsRow_of_block hv (fun k hk hvk => by
    obtain ⟨c, hc⟩ := own_type hv hvk
    exact hkp.block k hk (hT hc t1 t2))
  have hpk : ∀ (i : Nat) (p : PSt), PairOk w ω i p → PairOk w' (ownN w ω fun _ => 1) i p := fun i p hp => hp.kept hkp (fun k hS _ => by have := hSo k hS; omega) _
  refine ⟨ownN w ω fun _ => 1, ⟨⟨hblk, hbl hB.bs (by decide) (by decide), hbl hB.kb (by decide) (by decide), hbl hB.ss (by decide) (by decide), hbl hB.ks (by decide) (by decide), ?_, ?_, hB.tab.same h0k, hB.wb10, hB.bn2, hB.bl4, hB.sl4, hB.bk, hB.sk⟩, ?_, h.ap, ?_, ?_, ?_, ?_, h.sg.same hkp.size (h0k 0 (by omega)), Nat.le_trans h.NL hkp.size, ?_, fl_own h.fl h.NL, h.frame hkp (fun k hS => by rw [hSo k hS]; decide)⟩⟩
  · exact fun e he => (hB.rd e he).same hkp.size (fun k hk hv => by
      obtain ⟨c, hc⟩ := (hB.rd e he).type hv
      exact hkp.block k hk (hT hc (by decide) (by decide)))
  · exact fun e he => (hB.rs e he).same hkp.size (fun k hk hv => by
      obtain ⟨c, hc⟩ := (hB.rs e he).type hv
      exact hkp.block k hk (hT hc (by decide) (by decide)))
  · show w'.ownsRow N 159 4 vl' (s.ps ++ [p]).length ((s.ps ++ [p]).flatMap prC)
    rw [List.length_append, List.flatMap_append]
    simpa using hrow
  · intro k hk
    rcases hk with rfl | hk | hk | hk | hk | hk
    · rw [ownN_old hwl]; exact h.o1 _ (.inl rfl)
    · rcases hvl k hk with e | e
      · rw [ownN_old (h.lr.lt k e).2]; exact h.o1 k (.inr (.inl e))
      · rw [ownN_new e]
    · rw [ownN_old (hB.bs.lt k hk).2]; exact h.o1 k (.inr (.inr (.inl hk)))
    · rw [ownN_old (hB.kb.lt k hk).2]; exact h.o1 k (.inr (.inr (.inr (.inl hk))))
    · rw [ownN_old (hB.ss.lt k hk).2]; exact h.o1 k (.inr (.inr (.inr (.inr (.inl hk)))))
    · rw [ownN_old (hB.ks.lt k hk).2]; exact h.o1 k (.inr (.inr (.inr (.inr (.inr hk)))))
  · intro e he k hk
    have hlt : k < w.heap.size := by
      rcases List.mem_append.1 he with he | he
      · obtain ⟨c, hc⟩ := (hB.rd e he).type hk; exact (Array.getElem?_eq_some_iff.1 hc).1
      · obtain ⟨c, hc⟩ := (hB.rs e he).type hk; exact (Array.getElem?_eq_some_iff.1 hc).1
    rw [ownN_old hlt]
    exact h.o2 e he k hk
  · intro i p' hp'
    by_cases hi : i < s.ps.length
    · rw [List.getElem?_append_left hi] at hp'
      exact hpk i p' (h.pr i p' hp')
    · have hi2 : i = s.ps.length := by
        have := (List.getElem?_eq_some_iff.1 hp').1
        simp at this
        omega
      subst hi2
      have : p' = p := by simpa using hp'.symm
      subst this
      exact hpk _ _ hp
  · intro k hk
    rw [ownN_old (by omega)]
    exact h.g0 k hk
  · show (s.ps ++ [p]).length ≤ s.bn
    simpa using hpn
end
end Go.Proofs.YtjmcokcdaddpcaaGreatDoor
set_option linter.unusedVariables false
set_option linter.unusedSimpArgs false
namespace Go.Proofs.YtjmcokcdaddpcaaGreatDoor
open Go.RowKit
section
variable {N : Nat} {w : World} {es : List Dsr.Ev} {rs : List Dsr.Rl} {a : SA}
def wantedE (e : Dsr.Ev) : Bool := e.inn && e.due
set_option maxRecDepth 100000 in
set_option maxHeartbeats 1600000 in
theorem ifEv_any (h : StAt N w es rs a) (hl : es.length ≤ 1000) :
    Calls Tryz.prog 136 #[a.ve, .func (.func 94) #[] #[]] w fun x w' => (∃ i : Int, x = .returned (.int .i64 i) ∧ decide (0 ≤ i) = es.any wantedE) ∧ Below w.heap.size w w' := by
  obtain ⟨ae, ce, ar, cr, hve, hvr⟩ := h.shapes
  have H : Hid (StAt N w es rs a ∧ a.ve = .slice ae es.length ce) := ⟨h, hve⟩
  have hz : (es.length : Int) ≤ 1000 := by omega
  rw [hve]
  clear h hve hvr
  go_enter Tryz.func136, Tryz.ntmps136
  go_wp2_with fail
  go_loopg [8] es.length (fun k i wr => ∃ m : Nat, i = .int .i64 m ∧ m + k = es.length ∧ (es.take m).any wantedE = false ∧ Below w.heap.size w wr)
  case atStart => exact ⟨0, rfl, by omega, rfl, Below.refl _ _⟩
  case round =>
    obtain ⟨m, rfl, hm, ha, hb⟩ := hrel
    by_cases hlt : m < es.length
    · obtain ⟨e, he⟩ : ∃ e, es[m]? = some e := ⟨_, List.getElem?_eq_getElem hlt⟩
      obtain ⟨g, b, v, rfl, h1, h2, hb1, hv1, d0, hbl, hbk⟩ := (H.out.1.below hb).evAt H.out.2 he
      have HH : Hid (es[m]? = some e ∧ (es.take m).any wantedE = false ∧ Below w.heap.size w wr ∧ wr.heap[b]? = some (evB e v)) := ⟨he, ha, hb, hbk⟩
      have hzr := hb.size
      clear hb ha he hb1 hv1 hbk
      rcases hp : wantedE e with _ | _
      · have HP : Hid (wantedE e = false) := hp
        clear hp
        go_wp2_with fail
        refine (evWanted_any HH.out.2.2.2).mono ?_
        rintro x w1 ⟨rfl, hb1⟩
        have e1 : (e.inn && e.due) = false := HP.out
        rw [e1]
        have HB : Hid (Below w.heap.size w w1) := HH.out.2.2.1.trans (hb1.mono hzr)
        clear hb1 e1
        go_wp2_with fail
        go_roundg (es.length - (m + 1))
        case measure => omega
        case rel => exact ⟨m + 1, by go_num, by omega, by rw [any_snoc _ _ _ _ HH.out.1, HH.out.2.1, HP.out]; rfl, HB.out⟩
      · have HP : Hid (wantedE e = true) := hp
        clear hp
        go_wp2_with fail
        refine (evWanted_any HH.out.2.2.2).mono ?_
        rintro x w1 ⟨rfl, hb1⟩
        have e1 : (e.inn && e.due) = true := HP.out
        rw [e1]
        have HB : Hid (Below w.heap.size w w1) := HH.out.2.2.1.trans (hb1.mono hzr)
        clear hb1 e1
        go_wp2_with fail
        go_ret
        exact ⟨⟨m, rfl, by rw [any_here _ _ _ _ HH.out.1 HP.out]; simp⟩, HB.out⟩
    · have HH : Hid ((es.take m).any wantedE = false ∧ Below w.heap.size w wr) := ⟨ha, hb⟩
      clear ha hb
      go_wp2_with fail
      go_ret
      exact ⟨⟨-1, rfl, by have e := HH.out.1; rw [List.take_of_length_le (by omega)] at e; rw [e]; rfl⟩, HH.out.2⟩
set_option maxRecDepth 100000 in
set_option maxHeartbeats 1600000 in
theorem cfEv_any (h : StAt N w es rs a) (hl : es.length ≤ 1000) :
    Calls Tryz.prog 93 #[a.ve, .func (.func 94) #[] #[]] w fun x w' => x = .returned (.bool (es.any wantedE)) ∧ Below w.heap.size w w' := by
  obtain ⟨ae, ce, ar, cr, hve, hvr⟩ := h.shapes
  have L := ifEv_any h hl
  rw [hve] at L ⊢
  have HL : Hid (Calls Tryz.prog 136 #[.slice ae es.length ce, .func (.func 94) #[] #[]] w fun x w' => (∃ i : Int, x = .returned (.int .i64 i) ∧ decide (0 ≤ i) = es.any wantedE) ∧ Below w.heap.size w w') := L
  clear L h hve hvr
  go_enter Tryz.func93, Tryz.ntmps93
  go_wp2_with fail
  refine HL.out.mono ?_
  rintro e w1 ⟨⟨i, rfl, hi⟩, hb⟩
  have HB : Hid (Below w.heap.size w w1 ∧ decide (0 ≤ i) = es.any wantedE) := ⟨hb, hi⟩
  clear hb hi
  go_wp2_with fail
  go_ret
  exact ⟨ret_bool (by rw [← HB.out.2]), HB.out.1⟩
set_option maxRecDepth 100000 in
set_option maxHeartbeats 1600000 in
theorem stAccepting_any (h : StAt N w es rs a) (hl : es.length ≤ 1000) :
    Calls Tryz.prog 60 #[ptr a.sb] w fun x w' => x = .returned (.bool (Dsr.acceptingP es)) ∧ Below w.heap.size w w' := by
  obtain ⟨ae, ce, ar, cr, hve, hvr⟩ := h.shapes
  have hblk := h.blk
  have hsb := h.sbLt.2
  have L := cfEv_any h hl
  rw [hve] at L
  rw [hve, hvr] at hblk
  obtain ⟨c0, c1, fz⟩ := cells2 hblk
  have HL : Hid (Calls Tryz.prog 93 #[.slice ae es.length ce, .func (.func 94) #[] #[]] w fun x w' => x = .returned (.bool (es.any wantedE)) ∧ Below w.heap.size w w') := L
  clear L h hve hvr hblk
  go_enter Tryz.func60, Tryz.ntmps60
  go_wp2_with fail
  refine HL.out.mono ?_
  rintro e w1 ⟨rfl, hb⟩
  have HB : Hid (Below w.heap.size w w1) := hb
  clear hb
  go_wp2_with fail
  go_ret
  exact ⟨rfl, HB.out⟩
end
section
variable {N : Nat} {w w' : World} {cb : Nat} {c : Dsr.Cs} {a : SA} {wb : Option Nat}
set_option maxRecDepth 100000 in
set_option maxHeartbeats 1600000 in
theorem accepting_any (h : CsAt N w cb c a wb) : Calls Tryz.prog 26 #[ptr cb] w fun x w' => x = .returned (.bool (Dsr.acceptingP c.es)) ∧ Below w.heap.size w w' := by
  obtain ⟨wv, -, c0, c1, c2, c3, c4, cf⟩ := h.cells
  have hl := h.lt
  have H : Hid (CsAt N w cb c a wb) := h
  clear h
  go_enter Tryz.func26, Tryz.ntmps26
  go_wp2_with fail
  refine (stAccepting_any H.out.st H.out.ok.g.esl).mono ?_
  rintro x w1 ⟨rfl, hb⟩
  have HB : Hid (Below w.heap.size w w1) := hb
  clear hb
  go_wp2_with fail
  go_ret
  exact ⟨rfl, HB.out⟩
end
end Go.Proofs.YtjmcokcdaddpcaaGreatDoor
set_option linter.unusedVariables false
set_option linter.unusedSimpArgs false
namespace Go.Proofs.YtjmcokcdaddpcaaGreatDoor
open Go.RowKit
theorem foot_iff {es : List Dsr.Ev} {rs : List Dsr.Rl} {a : SA} {k : Nat} : Foot es rs a k ↔ (k = a.sb ∨ k ∈ a.eb ∨ a.ve.ownBlock = some k ∨ a.vr.ownBlock = some k ∨ ∃ v ∈ a.rv, v.ownBlock = some k) := by
  unfold Foot Owns stRows
  simp [or_assoc]
theorem GOk.doP {es : List Dsr.Ev} {rs : List Dsr.Rl} (h : GOk es rs) (n : List UInt8) : GOk (Dsr.doP rs n es) rs :=
  GOk.fold n 2 rs _ (GOk.fold n 3 rs _ (GOk.fold n 4 rs _ (h.modN Dsr.finish (fun _ => rfl) (fun _ => rfl) n)))
theorem nms_doP (rs : List Dsr.Rl) (n : List UInt8) (es : List Dsr.Ev) : nms (Dsr.doP rs n es) = nms es := by
  unfold Dsr.doP Dsr.follow
  rw [nms_follow, nms_follow, nms_follow, nms_modN Dsr.finish (fun _ => rfl)]
section
variable {N : Nat} {w w' : World} {cb : Nat} {c : Dsr.Cs} {a : SA} {wb : Option Nat}
theorem wtB_cells {b : Nat} {q : Dsr.Wt} (h : w.heap[b]? = some (wtB q)) : w.cell? ⟨b, 0, none⟩ = some (strV q.ev) ∧ w.cell? ⟨b, 1, none⟩ = some (.int .u8 q.verdict) ∧ w.cell? ⟨b, 2, none⟩ = some (.int .u32 q.num) ∧ w.cell? ⟨b, 3, none⟩ = some (.int .i64 q.len) ∧ w.cell? ⟨b, 4, none⟩ = some (.int .u32 q.hash) ∧ ∀ o, w.frozen? ⟨b, o, none⟩ = false := by
  refine ⟨?_, ?_, ?_, ?_, ?_, fun o => ?_⟩ <;> simp [World.cell?, World.frozen?, h]
/-- The case with its log's end turned, and nothing that waits. -/
theorem CsAt.settled {q : Dsr.Wt} {es' : List Dsr.Ev} (h : CsAt N w cb c a wb) (hq : c.wait = some q) (hst : StAt N w' es' c.rs a) (hg : GOk es' c.rs) (hblk : w'.heap[cb]? = some (.cells #[ptr a.sb, .int .u32 q.num, .int .i64 q.len, .int .u32 q.hash, .pointer none] 119 (0, 0))) :
    CsAt N w' cb { c with es := es', num := q.num, len := q.len, hash := q.hash, wait := none } a none := by
  have hw := h.ok.wait q hq
  refine ⟨hst, hblk, rfl, (fun b q h1 h2 => by cases h1), h.cbN, ⟨fun hf => h.far.1 (foot_iff.2 (foot_iff.1 hf)), fun b hb => by cases hb⟩, ⟨hg, hw.1, hw.2.1, hw.2.2.1, fun q h => by cases h⟩⟩
set_option maxRecDepth 100000 in
set_option maxHeartbeats 1600000 in
theorem settle_any (h : CsAt N w cb c a wb) : Calls Tryz.prog 25 #[ptr cb] w fun x w' => x = .returned (.int .i64 ((Dsr.settleP c).1 : Nat)) ∧ CsAt N w' cb (Dsr.settleP c).2 a none ∧ Kp (fun k => k = cb ∨ k ∈ a.eb) w w' := by
  have hl := h.lt
  have H : Hid (CsAt N w cb c a wb) := h
  rcases hw : c.wait with _ | q
  · obtain ⟨wv, hwv, c0, c1, c2, c3, c4, cf⟩ := h.cells
    rw [wtV_none hw] at hwv
    subst hwv
    have hwb : wb = none := by
      have := h.wsome
      rw [hw] at this
      cases wb <;> simp_all
    have HE : Hid (Dsr.settleP c = (6, c) ∧ CsAt N w cb c a none) := ⟨by unfold Dsr.settleP; rw [hw], by rw [← hwb]; exact h⟩
    clear h hw
    go_enter Tryz.func25, Tryz.ntmps25
    go_wp2_with fail
    go_ret
    rw [HE.out.1]
    exact ⟨rfl, HE.out.2, Kp.refl _ _⟩
  · obtain ⟨wv, hwv, c0, c1, c2, c3, c4, cf⟩ := h.cells
    obtain ⟨b, hb, hwb⟩ := wtV_some h.wsome hw
    rw [hwb] at hwv
    subst hwv
    have hwt := h.wt b q hb hw
    obtain ⟨d0, d1, d2, d3, d4, df⟩ := wtB_cells hwt
    have hbl : b < w.heap.size := (Array.getElem?_eq_some_iff.1 hwt).1
    have hbc : ¬ b = cb := (h.far.2 b hb).2
    have hcb : ¬ cb = b := fun e => hbc e.symm
    have hv4 := (h.ok.wait q hw).2.2.2.1
    have HW : Hid (c.wait = some q ∧ wb = some b) := ⟨hw, hb⟩
    have HP : Hid (Dsr.settleP c = (0, { c with es := if q.verdict = 0 then Dsr.doP c.rs q.ev c.es else c.es, num := q.num, len := q.len, hash := q.hash, wait := none })) := by show _ = _; unfold Dsr.settleP; rw [hw]
    have hnf : ∀ k, k = cb → ¬ Foot c.es c.rs a k := fun k hk => by rw [hk]; exact h.far.1
    have K3 : ∀ x y z : Value, Kp (fun k => k = cb) w (((w.setCell ⟨cb, 1, none⟩ x).setCell ⟨cb, 2, none⟩ y).setCell ⟨cb, 3, none⟩ z) := fun x y z => (((Kp.refl (fun k => k = cb) w).setCell (a := ⟨cb, 1, none⟩) (.inl rfl) _).setCell (a := ⟨cb, 2, none⟩) (.inl rfl) _).setCell (a := ⟨cb, 3, none⟩) (.inl rfl) _
    have HS : Hid (∀ x y z : Value, StAt N (((w.setCell ⟨cb, 1, none⟩ x).setCell ⟨cb, 2, none⟩ y).setCell ⟨cb, 3, none⟩ z) c.es c.rs a ∧ (((w.setCell ⟨cb, 1, none⟩ x).setCell ⟨cb, 2, none⟩ y).setCell ⟨cb, 3, none⟩ z).heap[cb]? = some (.cells #[ptr a.sb, x, y, z, ptr b] 119 (0, 0)) ∧ Kp (fun k => k = cb) w (((w.setCell ⟨cb, 1, none⟩ x).setCell ⟨cb, 2, none⟩ y).setCell ⟨cb, 3, none⟩ z)) := fun x y z => by
      refine ⟨h.st.kp (K3 x y z) hnf, ?_, K3 x y z⟩
      have e0 := h.blk
      rw [hwb] at e0
      rw [blk_set (blk_set (blk_set e0 1 x) 2 y) 3 z]
      simp
    clear h hw hwt hb hwb K3 hnf
    rcases hv : q.verdict with _ | k
    · have HV : Hid (q.verdict = 0) := hv
      rw [hv] at d1
      clear hv
      have hce : cb ∉ a.eb := fun hm => H.out.far.1 (foot_iff.2 (.inr (.inl hm)))
      have HS1 : Hid (StAt N (((w.setCell ⟨cb, 1, none⟩ (.int .u32 q.num)).setCell ⟨cb, 2, none⟩ (.int .i64 q.len)).setCell ⟨cb, 3, none⟩ (.int .u32 q.hash)) c.es c.rs a ∧ (((w.setCell ⟨cb, 1, none⟩ (.int .u32 q.num)).setCell ⟨cb, 2, none⟩ (.int .i64 q.len)).setCell ⟨cb, 3, none⟩ (.int .u32 q.hash)).heap[cb]? = some (.cells #[ptr a.sb, .int .u32 q.num, .int .i64 q.len, .int .u32 q.hash, ptr b] 119 (0, 0)) ∧ Kp (fun k => k = cb) w (((w.setCell ⟨cb, 1, none⟩ (.int .u32 q.num)).setCell ⟨cb, 2, none⟩ (.int .i64 q.len)).setCell ⟨cb, 3, none⟩ (.int .u32 q.hash))) := HS.out (.int .u32 q.num) (.int .i64 q.len) (.int .u32 q.hash)
      have HD : Hid (Calls Tryz.prog 59 #[ptr a.sb, strV q.ev] (((w.setCell ⟨cb, 1, none⟩ (.int .u32 q.num)).setCell ⟨cb, 2, none⟩ (.int .i64 q.len)).setCell ⟨cb, 3, none⟩ (.int .u32 q.hash)).drew fun x w' => x = .returned (.tuple #[]) ∧ StAt N w' (Dsr.doP c.rs q.ev c.es) c.rs a ∧ Kp (· ∈ a.eb) (((w.setCell ⟨cb, 1, none⟩ (.int .u32 q.num)).setCell ⟨cb, 2, none⟩ (.int .i64 q.len)).setCell ⟨cb, 3, none⟩ (.int .u32 q.hash)).drew w') := do_any HS1.out.1.drew H.out.ok.g ((H.out.ok.wait q HW.out.1).2.2.2.2 HV.out)
      go_enter Tryz.func25, Tryz.ntmps25
      go_wp2_with fail
      go_region_with (go_at_call 59; refine HD.out.mono ?_; rintro x w2 ⟨rfl, S2, k2⟩)
      all_goals
        have b2 : w2.heap[cb]? = some (.cells #[ptr a.sb, .int .u32 q.num, .int .i64 q.len, .int .u32 q.hash, ptr b] 119 (0, 0)) := (k2.block cb (Array.getElem?_eq_some_iff.1 HS1.out.2.1).1 hce).trans HS1.out.2.1
        have f2 : w2.frozen? ⟨cb, 4, none⟩ = false := by simp [World.frozen?, b2]
        have g4 : w2.cell? ⟨cb, 4, none⟩ = some (ptr b) := by simp [World.cell?, b2]
        have hl2 : cb < w2.heap.size := (Array.getElem?_eq_some_iff.1 b2).1
        have H2 : Hid (StAt N w2 (Dsr.doP c.rs q.ev c.es) c.rs a ∧ w2.heap[cb]? = some (.cells #[ptr a.sb, .int .u32 q.num, .int .i64 q.len, .int .u32 q.hash, ptr b] 119 (0, 0)) ∧ Kp (fun k => k = cb ∨ k ∈ a.eb) w w2) := ⟨S2, b2, ((HS1.out.2.2.mono (fun k hk => .inl (.inl hk))).drew).trans k2 (fun k hk => .inl (.inr hk))⟩
        clear S2 k2 b2
        go_wp2_with fail
        go_ret
        rw [HP.out, if_pos HV.out]
        refine ⟨rfl, H.out.settled HW.out.1 (H2.out.1.kp (S := fun k => k = cb) ((Kp.refl (fun k => k = cb) _).setCell (a := ⟨cb, 4, none⟩) (.inl rfl) _) (fun k hk hf => H.out.far.1 (by rw [hk] at hf; exact foot_iff.2 (foot_iff.1 hf)))) (H.out.ok.g.doP q.ev) (by rw [blk_set H2.out.2.1]; simp), H2.out.2.2.setCell (a := ⟨cb, 4, none⟩) (.inl (.inl rfl)) _⟩
    · have HV : Hid (¬ q.verdict = 0) := by show ¬ _; omega
      rw [hv] at d1
      have hk1 : (((k + 1 : Nat) : Int) == 0) = false := by simp; omega
      clear hv
      go_enter Tryz.func25, Tryz.ntmps25
      go_wp2_with fail
      go_ret
      have S1 := HS.out (.int .u32 q.num) (.int .i64 q.len) (.int .u32 q.hash)
      rw [HP.out, if_neg HV.out]
      refine ⟨rfl, H.out.settled HW.out.1 (S1.1.kp (S := fun k => k = cb) ((Kp.refl (fun k => k = cb) _).setCell (a := ⟨cb, 4, none⟩) (.inl rfl) _) (fun k hk hf => H.out.far.1 (by rw [hk] at hf; exact hf))) H.out.ok.g (by rw [blk_set S1.2.1]; simp), (S1.2.2.mono (fun k hk => .inl (.inl hk))).setCell (a := ⟨cb, 4, none⟩) (.inl (.inl rfl)) _⟩
end
end Go.Proofs.YtjmcokcdaddpcaaGreatDoor
