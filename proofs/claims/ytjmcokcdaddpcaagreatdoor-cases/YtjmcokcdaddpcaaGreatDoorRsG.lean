import Derived.Test.YtjmcokcdaddpcaaGreatDoorUi
import Derived.Deep.DeepCutAuto
set_option linter.unusedVariables false
set_option linter.unusedSimpArgs false
namespace Go.Proofs.YtjmcokcdaddpcaaGreatDoor
open Go.RowKit
/-- The bytes of a request's record, without its hash. -/
def recQ (n : Nat) (log role ev : List UInt8) (v : Nat) : List UInt8 := [82] ++ Dsr.four (n + 1) ++ log.drop (log.length - 4) ++ [Dsr.byte role.length] ++ role ++ [Dsr.byte ev.length] ++ ev ++ [Dsr.byte v]
abbrev rqB (role ev : List UInt8) : Obj := .cells #[strV role, strV ev] 238
/-- In the midst of Next. -/
abbrev NMid (w wk : World) (role ev : List UInt8) : Prop := Below (w.heap.size + 1) (w.alloc (rqB role ev)) wk
theorem nmid0 (w : World) (role ev : List UInt8) : NMid w (w.alloc (rqB role ev)) role ev := Below.refl _ _
theorem NMid.bel {w wk : World} {role ev : List UInt8} (h : NMid w wk role ev) : Below w.heap.size w wk := below_alloc (show Below (w.alloc (rqB role ev)).heap.size _ wk from by simpa using h)
theorem NMid.facts {N : Nat} {w wk : World} {role ev : List UInt8} {cb : Nat} {c : RC} {a : RA} (h : NMid w wk role ev) (hc : RcAt N w cb c a) :
    wk.cell? ⟨cb, 0, none⟩ = some (ptrG a.b) ∧ wk.cell? ⟨cb, 1, none⟩ = some a.vq ∧ wk.cell? ⟨cb, 2, none⟩ = some a.vl ∧ wk.cell? ⟨cb, 5, none⟩ = some a.vb ∧ wk.cell? ⟨w.heap.size, 0, none⟩ = some (strV role) ∧ wk.cell? ⟨w.heap.size, 1, none⟩ = some (strV ev) ∧ cb < wk.heap.size ∧ w.heap.size < wk.heap.size ∧ w.heap.size + 1 ≤ wk.heap.size := by
  have h1 := (hc.below h.bel)
  obtain ⟨k0, k1, k2, k3, k4, k5, kf⟩ := cells6R h1.blk
  have hb : wk.heap[w.heap.size]? = some (.cells #[strV role, strV ev] 238 (0, 0)) := (Below.block h w.heap.size (by omega)).trans (heap_alloc_new _ _)
  obtain ⟨r0, r1, rf⟩ := cells2R hb
  have := h.size
  simp at this
  exact ⟨k0, k1, k2, k5, r0, r1, h1.lt, (Array.getElem?_eq_some_iff.1 hb).1, this⟩
theorem NMid.step {w wk wl : World} {role ev : List UInt8} {B : Nat} (h : NMid w wk role ev) (hb : Below B wk wl) (hB : w.heap.size + 1 ≤ B) : NMid w wl role ev := Below.trans h (hb.mono hB)
theorem BOwn.row {B : Nat} {w : World} {a : Option Addr} {n c : Nat} {bs : List UInt8} (h : BOwn B w (.slice a n c) bs) : w.ownsRow B 5 1 (.slice a n c) n (bs.map byV) := by
  have := h.len
  subst this
  exact h
/-- Behind an append of one byte. -/
theorem napp1 {w wk w5 : World} {role ev : List UInt8} {va : Option Addr} {n vc g cap : Nat} {bs : List UInt8} {x : UInt8} {o : Obj} {news : List Value} (h : Hid (NMid w wk role ev ∧ BOwn (w.heap.size + 1) wk (.slice va n vc) bs)) (hnews : news = [x].map byV) (hown : w5.ownsRow (w.heap.size + 1) 5 1 (.slice (some ⟨g, 0, none⟩) (n + 1) cap) (n + 1) (bs.map byV ++ news)) (hg : (wk.alloc o).grownBy w5 (Value.slice va n vc).ownBlock) (hwl : w.heap.size + 1 ≤ wk.heap.size) :
    Hid (NMid w w5 role ev ∧ BOwn (w.heap.size + 1) w5 (.slice (some ⟨g, 0, none⟩) (n + 1) cap) (bs ++ [x])) ∧ w.heap.size + 1 ≤ w5.heap.size ∧ w5.cell? ⟨w.heap.size, 0, none⟩ = some (strV role) ∧ w5.cell? ⟨w.heap.size, 1, none⟩ = some (strV ev) ∧ w.heap.size < w5.heap.size := by
  have hb : Below (w.heap.size + 1) wk w5 := ((Below.refl _ _).alloc hwl o).grown hg (by simp; omega) (fun k hk => (World.ownsRow.lt h.out.2 k hk).1)
  have hm : NMid w w5 role ev := h.out.1.step hb (Nat.le_refl _)
  have hb2 : w5.heap[w.heap.size]? = some (.cells #[strV role, strV ev] 238 (0, 0)) := (Below.block hm w.heap.size (by omega)).trans (heap_alloc_new _ _)
  obtain ⟨r0, r1, rf⟩ := cells2R hb2
  have hn := h.out.2.len
  subst hn hnews
  refine ⟨⟨hm, ?_⟩, by have := hb.size; omega, r0, r1, (Array.getElem?_eq_some_iff.1 hb2).1⟩
  unfold BOwn
  rw [List.length_append, List.map_append]
  exact hown
/-- Behind an append of a text. -/
theorem nappT {w wk w5 : World} {role ev : List UInt8} {va : Option Addr} {n vc : Nat} {bs t : List UInt8} {v5 : Value} (h : Hid (NMid w wk role ev ∧ BOwn (w.heap.size + 1) wk (.slice va n vc) bs)) (hown : w5.ownsRow (w.heap.size + 1) 5 1 v5 (n + (⟨t.toArray⟩ : ByteArray).size) (bs.map byV ++ Lib.strCells ⟨t.toArray⟩)) (hg : wk.grownBy w5 (Value.slice va n vc).ownBlock) (hwl : w.heap.size + 1 ≤ wk.heap.size) :
    ∃ a m c, v5 = .slice a m c ∧ m = n + t.length ∧ Hid (NMid w w5 role ev ∧ BOwn (w.heap.size + 1) w5 (.slice a m c) (bs ++ t)) ∧ w.heap.size + 1 ≤ w5.heap.size ∧ w5.cell? ⟨w.heap.size, 0, none⟩ = some (strV role) ∧ w5.cell? ⟨w.heap.size, 1, none⟩ = some (strV ev) ∧ w.heap.size < w5.heap.size := by
  have hn := h.out.2.len
  obtain ⟨HS, a, m, c, rfl⟩ := text_step (B := w.heap.size + 1) (w := wk) (w5 := wk) ⟨h.out.2, Below.refl _ _⟩ hwl hn hown hg
  have hm : NMid w w5 role ev := h.out.1.step HS.out.bel (Nat.le_refl _)
  have hb2 : w5.heap[w.heap.size]? = some (.cells #[strV role, strV ev] 238 (0, 0)) := (Below.block hm w.heap.size (by omega)).trans (heap_alloc_new _ _)
  obtain ⟨r0, r1, rf⟩ := cells2R hb2
  refine ⟨a, m, c, rfl, ?_, ⟨hm, HS.out.own⟩, by have := HS.out.bel.size; omega, r0, r1, (Array.getElem?_eq_some_iff.1 hb2).1⟩
  have := HS.out.own.len
  rw [List.length_append, ← hn] at this
  exact this
theorem wrap_nat (k : Nat) (hk : k ≤ 1000000) : IntKind.i64.wrap (k : Int) = (k : Int) := by
  unfold IntKind.wrap; simp [IntKind.bits, IntKind.signed]; omega
set_option maxRecDepth 100000 in
set_option maxHeartbeats 3200000 in
theorem rcNext_any {N : Nat} {w : World} {cb : Nat} {c : RC} {a : RA} (h : RcAt N w cb c a) (role ev : List UInt8) (hr : role.length ≤ 8) (he : ev.length ≤ 8) :
    Calls Tryz.prog 168 #[ptr cb, .agg #[strV role, strV ev]] w fun x w' => ∃ sa n sc, x = .returned (.tuple #[.int .u8 (saysQ c.l (marksQ c.l c.reqs) role ev : Nat), .slice sa n sc]) ∧ BOwn w.heap.size w' (.slice sa n sc) (Dsr.sealed (recQ c.reqs.length c.log role ev (saysQ c.l (marksQ c.l c.reqs) role ev))) ∧ Below w.heap.size w w' := by
  have H : Hid (RcAt N w cb c a) := h
  obtain ⟨i0, hi, hz0, hz1, hz2⟩ := info_parts info_u8
  have hzr : (role.length : Int) ≤ 8 := by omega
  have hze : (ev.length : Int) ≤ 8 := by omega
  have hzq : (c.reqs.length : Int) ≤ 200 := by have := h.ok.rq; omega
  have hzl : (c.log.length : Int) ≤ 2000 ∧ (8 : Int) ≤ c.log.length := by have := h.ok.lg; have := h.ok.lo; omega
  obtain ⟨aq, cq, hvq⟩ := owned_shape h.rq
  obtain ⟨al, cl, hvl⟩ := owned_shape h.lg
  have hlg : w.ownsRow N 5 1 (.slice al c.log.length cl) c.log.length (c.log.map byV) := by have := h.lg; rw [hvl] at this; exact this
  obtain ⟨gl, hgl, hcl1, hcl2⟩ := own_some hlg (by have := h.ok.lo; omega)
  subst hgl
  have HLG : Hid (w.ownsRow N 5 1 (.slice (some ⟨gl, 0, none⟩) c.log.length cl) c.log.length (c.log.map byV)) := hlg
  clear hlg
  have HM : Hid (Calls Tryz.prog 169 #[ptr cb] (w.alloc (rqB role ev)).drew fun x w' => ∃ v, x = .returned v ∧ w'.ownsRow (w.heap.size + 1) 48 3 v (marksQ c.l c.reqs).length ((marksQ c.l c.reqs).flatMap mkC) ∧ NMid w w' role ev) := by
    have hb1 : Below w.heap.size w (w.alloc (rqB role ev)).drew := ((Below.refl _ _).alloc (Nat.le_refl _) _).drew
    have h1 := h.below hb1
    obtain ⟨k0, k1, k2, k3, k4, k5, kf⟩ := cells6R h1.blk
    refine (rcMarks_any k0 k1 h1.lt h1.lk h1.rq h.ok.sm (by have := h.ok.rq; omega)).mono ?_
    rintro x w' ⟨v, rfl, ho, hb⟩
    exact ⟨v, rfl, by simpa using ho, ⟨hb.os, hb.tape, hb.output, hb.size, fun k hk => hb.block k (by simpa using hk)⟩⟩
  clear h
  obtain ⟨vd, hvd⟩ : ∃ vd, vd = saysQ c.l (marksQ c.l c.reqs) role ev := ⟨_, rfl⟩
  rw [← hvd]
  have HV : Hid (vd = saysQ c.l (marksQ c.l c.reqs) role ev) := hvd
  clear hvd
  obtain ⟨k0, k1, k2, k5, r0, r1, hcb1, hwl1, hwl2⟩ := (nmid0 w role ev).facts H.out
  rw [hvq] at k1
  rw [hvl] at k2
  go_enter Tryz.func168, Tryz.ntmps168
  go_wp2_with fail
  go_cut [6] from 9 (fun vv wd => vv = .int .u8 vd ∧ NMid w wd role ev)
  case first =>
    go_region_with (first
      | (go_at_call 169; refine HM.out.mono ?_; rintro x w1 ⟨v1, rfl, o1, b1⟩; obtain ⟨k0a, k1a, k2a, k5a, r0a, r1a, hcb1a, hwl1a, hwl2a⟩ := b1.facts H.out)
      | (go_at_call 170; refine (rSays_any role ev ((H.out.below b1.bel).lk) o1 (MkOf.marks _ _) H.out.ok.sm).mono ?_; rintro x w2 ⟨rfl, b2⟩))
    all_goals
      go_wp2_with fail
      go_meet
      case rel => exact ⟨by rw [HV.out], b1.step b2 hwl2a⟩
  case rest =>
    obtain ⟨rfl, hb⟩ := hcut
    clear k0 k1 k2 k5 r0 r1 hcb1 hwl1 hwl2 HM
    obtain ⟨k0, k1, k2, k5, r0, r1, hcb1, hwl1, hwl2⟩ := hb.facts H.out
    rw [hvq] at k1
    have HB : Hid (NMid w wc role ev) := hb
    clear hb
    go_wp2_with fail
    refine (rFour_any (c.reqs.length + 1) (by omega) _).mono ?_
    rintro x w2 ⟨g2, c2, rfl, o2, b2⟩
    have HB2 : Hid (NMid w w2 role ev ∧ BOwn (w.heap.size + 1) w2 (.slice (some ⟨wc.heap.size, 0, none⟩) 1 1) [82] ∧ BOwn (w.heap.size + 1) w2 (.slice (some ⟨g2, 0, none⟩) 4 c2) (Dsr.four (c.reqs.length + 1))) := by
      have e1 : (wc.alloc (.cells #[.int .u8 82] 5)).heap.size = wc.heap.size + 1 := by simp
      refine ⟨HB.out.step (B := w.heap.size + 1) (((Below.refl _ _).alloc hwl2 _).trans (b2.mono (by rw [e1]; omega))) (Nat.le_refl _), ?_, own_mono o2 (by rw [e1]; omega)⟩
      have := own_built (w := wc) (T := 5) (B := w.heap.size + 1) (vs := [(82 : UInt8)].map byV) (n := 1) rfl (by unfold maxLen; omega) hwl2
      exact BOwn.below (bs := [82]) this b2
    have hsz2 : w.heap.size + 1 ≤ w2.heap.size := (HB2.out.1.facts H.out).2.2.2.2.2.2.2.2
    obtain ⟨g2x, hge, hc2, hc2x⟩ := own_some (n := 4) HB2.out.2.2 (by decide)
    clear hge hc2x
    clear o2 b2 k0 k1 k2 k5 r0 r1 hcb1 hwl1 hwl2
    obtain ⟨k0, k1, k2, k5, r0, r1, hcb1, hwl1, hwl2⟩ := HB2.out.1.facts H.out
    rw [hvl] at k2
    go_wp2_with (at_builtin; go_loud (refine wpList_append_lies _ rfl (.tmp 18) (.tmp 25) 27 rfl (w.heap.size + 1) 5 i0 _ 1 1 Tryz.underlying27 hi hz0 hz1 hz2 rfl (by decide) (.slice (some ⟨wc.heap.size, 0, none⟩) 1 1) 1 ([(82 : UInt8)].map byV) (by simp [Act.eval, Act.put]) HB2.out.2.1 ⟨g2, 0, none⟩ 4 c2 ((Dsr.four (c.reqs.length + 1)).map byV) (by simp [Act.eval, Act.put]) (by simp [Dsr.four]) (fun j u hu => World.ownsRow.cells HB2.out.2.2 (g := g2) rfl j u hu) (by intro u hu; obtain ⟨x, hx, rfl⟩ := List.mem_map.1 hu; rfl) (by decide) (by unfold maxLen; omega) (by omega) hsz2 _ rfl ?_); intro g3 cap3 w3 hown hgrow hat hlt3)
    have HB3 : Hid (NMid w w3 role ev ∧ BOwn (w.heap.size + 1) w3 (.slice (some ⟨g3, 0, none⟩) 5 cap3) ([82] ++ Dsr.four (c.reqs.length + 1))) := ⟨HB2.out.1.step (B := w.heap.size + 1) ((Below.refl _ _).grown hgrow hsz2 (fun k hk => (World.ownsRow.lt HB2.out.2.1 k hk).1)) (Nat.le_refl _), by unfold BOwn; rw [List.length_append, List.map_append]; exact hown⟩
    clear hown hgrow hat k0 k1 k2 k5 r0 r1 hcb1 hwl1 hwl2
    obtain ⟨k0, k1, k2, k5, r0, r1, hcb1, hwl1, hwl2⟩ := HB3.out.1.facts H.out
    rw [hvl] at k2
    go_wp2_with fail
    obtain ⟨n4, hn4⟩ : ∃ n4, c.log.length = n4 + 4 := ⟨c.log.length - 4, by omega⟩
    have e4 : (c.log.drop (c.log.length - 4)).length = 4 := by simp; omega
    have HN : Hid (((c.log.drop (c.log.length - 4)).map byV).length = 4 * 1 ∧ ∀ j u, ((c.log.drop (c.log.length - 4)).map byV)[j]? = some u → w3.cell? ((⟨gl, n4, none⟩ : Addr).add j) = some u) := ⟨by rw [List.length_map, e4], fun j u hu => by
      rw [List.getElem?_map, List.getElem?_drop] at hu
      have h1 : (c.log.map byV)[c.log.length - 4 + j]? = some u := by rw [List.getElem?_map]; exact hu
      rw [show c.log.length - 4 = n4 by omega] at h1
      have h2 := own_at HLG.out h1
      have h3 := (HB3.out.1.bel.cell (p := ⟨gl, n4 + j, none⟩) (World.block_lt_of_cell? _ _ h2)).trans h2
      unfold Addr.add
      split
      · subst_vars; simpa using h3
      · exact h3⟩
    have hw4 : IntKind.i64.wrap ((c.log.length : Int) - 4) = (n4 : Int) := by
      rw [hn4]
      have : ((n4 + 4 : Nat) : Int) - 4 = (n4 : Int) := by omega
      rw [this]
      exact wrap_nat n4 (by omega)
    have hle4 : (n4 : Int) ≤ (c.log.length : Int) := by omega
    have hcn : ¬ cl = n4 := by omega
    have hsub : c.log.length - n4 = 4 := by omega
    have HE4 : Hid ((c.log.drop (c.log.length - 4)).length = 4) := e4
    clear e4 hn4
    go_cut [7] from 9 (fun v wd => ∃ g cp, v = .slice (some ⟨g, 0, none⟩) 9 cp ∧ NMid w wd role ev ∧ BOwn (w.heap.size + 1) wd (.slice (some ⟨g, 0, none⟩) 9 cp) ([82] ++ Dsr.four (c.reqs.length + 1) ++ c.log.drop (c.log.length - 4)))
    case first =>
      go_region_law (go_loud (refine step_append_lies _ rfl (.tmp 27) (.tmp 38) 27 rfl (w.heap.size + 1) 5 i0 _ 1 1 Tryz.underlying27 hi hz0 hz1 hz2 rfl (by decide) (.slice (some ⟨g3, 0, none⟩) 5 cap3) 5 (([82] ++ Dsr.four (c.reqs.length + 1)).map byV) (by simp [Act.eval, Act.put]) (by first | exact HB3.out.2 | exact World.ownsRow.drew HB3.out.2) ⟨gl, n4, none⟩ 4 (cl - n4) ((c.log.drop (c.log.length - 4)).map byV) (by simp [Act.eval, Act.put]) HN.out.1 (by exact HN.out.2) (by intro u hu; obtain ⟨x, hx, rfl⟩ := List.mem_map.1 hu; rfl) (by decide) (by unfold maxLen; omega) (by omega) hwl2 _ rfl ?_); intro g4 cap4 w4 hown hgrow hat hlt4)
      all_goals
        have HB4 : Hid (NMid w w4 role ev ∧ BOwn (w.heap.size + 1) w4 (.slice (some ⟨g4, 0, none⟩) 9 cap4) ([82] ++ Dsr.four (c.reqs.length + 1) ++ c.log.drop (c.log.length - 4))) := ⟨HB3.out.1.step (B := w.heap.size + 1) ((Below.refl _ _).grown (⟨hgrow.os, hgrow.tape, hgrow.output, hgrow.size, hgrow.block⟩ : w3.grownBy w4 _) hwl2 (fun k hk => (World.ownsRow.lt HB3.out.2 k hk).1)) (Nat.le_refl _), by unfold BOwn; rw [List.length_append, List.map_append, HE4.out]; exact hown⟩
        clear hown hgrow hat
        go_wp2_with fail
        go_meet
        case rel => exact ⟨g4, cap4, rfl, HB4.out.1, HB4.out.2⟩
    case rest =>
      obtain ⟨g4, cap4, rfl, hb4, ho4⟩ := hcut
      obtain ⟨bs4, hbs4⟩ : ∃ q, q = [82] ++ Dsr.four (c.reqs.length + 1) ++ c.log.drop (c.log.length - 4) := ⟨_, rfl⟩
      rw [← hbs4] at ho4
      have HBS : Hid (bs4 = [82] ++ Dsr.four (c.reqs.length + 1) ++ c.log.drop (c.log.length - 4)) := hbs4
      have HB4 : Hid (NMid w wc role ev ∧ BOwn (w.heap.size + 1) wc (.slice (some ⟨g4, 0, none⟩) 9 cap4) bs4) := ⟨hb4, ho4⟩
      clear hb4 ho4 k0 k1 k2 k5 r0 r1 hcb1 hwl1 hwl2 hbs4
      obtain ⟨k0, k1, k2, k5, r0, r1, hcb1, hwl1, hw4⟩ := HB4.out.1.facts H.out
      obtain ⟨n9, hn9⟩ : ∃ q : Nat, q = 9 := ⟨_, rfl⟩
      rw [← hn9] at HB4 ⊢
      have hz9 : (n9 : Int) ≤ 20 := by omega
      clear hn9
      have HR1 : Hid ([Value.int .u8 (role.length : Int)] = [Dsr.byte role.length].map byV) := by
        show _ = _
        simp only [List.map_cons, List.map_nil, byV_byte]
        congr 2
        omega
      have HE1 : Hid ([Value.int .u8 (ev.length : Int)] = [Dsr.byte ev.length].map byV) := by
        show _ = _
        simp only [List.map_cons, List.map_nil, byV_byte]
        congr 2
        omega
      have hvz : vd ≤ 4 := by rw [HV.out]; unfold saysQ; split; omega; split; omega; split; omega; split <;> omega
      have HV1 : Hid ([Value.int .u8 (vd : Int)] = [Dsr.byte vd].map byV) := by
        show _ = _
        simp only [List.map_cons, List.map_nil, byV_byte]
        congr 2
        omega
      go_wp2_with (first
        | (at_builtin; refine wpList_append_lies _ rfl (.tmp 40) (.tmp 45) 27 rfl (w.heap.size + 1) 5 i0 _ 1 1 Tryz.underlying27 hi hz0 hz1 hz2 rfl (by decide) (.slice (some ⟨g4, 0, none⟩) n9 cap4) n9 _ (by simp [Act.eval, Act.put]) (World.ownsRow.alloc HB4.out.2.row _) ⟨wc.heap.size, 0, none⟩ 1 1 [.int .u8 (role.length : Int)] (by simp [Act.eval, Act.put]) rfl (by exact news_blk (heap_alloc_new _ _)) (one_int (by simp)) (by decide) (by unfold maxLen; omega) (by omega) (by simp; omega) _ rfl ?_; intro g5 cap5 w5 hown hgrow hat hlt5; obtain ⟨HB5, hw5, r0a, r1a, rla⟩ := napp1 HB4 HR1.out hown hgrow hw4; clear hown hgrow hat hlt5; obtain ⟨n5, hn5⟩ : ∃ q, q = n9 + 1 := ⟨_, rfl⟩; rw [← hn5] at HB5 ⊢; have zhn5 : (n5 : Int) ≤ 21 := (by omega); clear hn5)
        | (at_builtin; refine Lib.wpList_append_own_string _ rfl (.tmp 47) (.tmp 49) 27 9 rfl (w.heap.size + 1) 5 i0 Tryz.underlying27 Tryz.underlying9 hi hz0 hz1 hz2 (.slice (some ⟨g5, 0, none⟩) n5 cap5) n5 _ (by simp [Act.eval, Act.put]) HB5.out.2.row ⟨role.toArray⟩ (by simp [Act.eval, Act.put]) (by unfold maxLen; simp [ByteArray.size]; omega) (by simp [ByteArray.size]; omega) hw5 ?_; intro v6 w6 hown6 hgrow6 hnil6; obtain ⟨a6, n6, c6, rfl, hmb, HB6, hw6, r0b, r1b, rlb⟩ := nappT HB5 hown6 hgrow6 hw5; clear hown6 hgrow6 hnil6; have znb : (n6 : Int) ≤ 29 := (by omega); clear hmb)
        | (at_builtin; refine wpList_append_lies _ rfl (.tmp 51) (.tmp 56) 27 rfl (w.heap.size + 1) 5 i0 _ 1 1 Tryz.underlying27 hi hz0 hz1 hz2 rfl (by decide) (.slice a6 n6 c6) n6 _ (by simp [Act.eval, Act.put]) (World.ownsRow.alloc HB6.out.2.row _) ⟨w6.heap.size, 0, none⟩ 1 1 [.int .u8 (ev.length : Int)] (by simp [Act.eval, Act.put]) rfl (by exact news_blk (heap_alloc_new _ _)) (one_int (by simp)) (by decide) (by unfold maxLen; omega) (by omega) (by simp; omega) _ rfl ?_; intro g7 cap7 w7 hown hgrow hat hlt5; obtain ⟨HB7, hw7, r0c, r1c, rlc⟩ := napp1 HB6 HE1.out hown hgrow hw6; clear hown hgrow hat hlt5; obtain ⟨n7, hn7⟩ : ∃ q, q = n6 + 1 := ⟨_, rfl⟩; rw [← hn7] at HB7 ⊢; have zhn7 : (n7 : Int) ≤ 30 := (by omega); clear hn7)
        | (at_builtin; refine Lib.wpList_append_own_string _ rfl (.tmp 58) (.tmp 60) 27 9 rfl (w.heap.size + 1) 5 i0 Tryz.underlying27 Tryz.underlying9 hi hz0 hz1 hz2 (.slice (some ⟨g7, 0, none⟩) n7 cap7) n7 _ (by simp [Act.eval, Act.put]) HB7.out.2.row ⟨ev.toArray⟩ (by simp [Act.eval, Act.put]) (by unfold maxLen; simp [ByteArray.size]; omega) (by simp [ByteArray.size]; omega) hw7 ?_; intro v6 w8 hown6 hgrow6 hnil6; obtain ⟨a8, n8, c8, rfl, hmd, HB8, hw8, r0d, r1d, rld⟩ := nappT HB7 hown6 hgrow6 hw7; clear hown6 hgrow6 hnil6; have znd : (n8 : Int) ≤ 38 := (by omega); clear hmd)
        | (at_builtin; refine wpList_append_lies _ rfl (.tmp 62) (.tmp 64) 27 rfl (w.heap.size + 1) 5 i0 _ 1 1 Tryz.underlying27 hi hz0 hz1 hz2 rfl (by decide) (.slice a8 n8 c8) n8 _ (by simp [Act.eval, Act.put]) (World.ownsRow.alloc HB8.out.2.row _) ⟨w8.heap.size, 0, none⟩ 1 1 [.int .u8 (vd : Int)] (by simp [Act.eval, Act.put]) rfl (by exact news_blk (heap_alloc_new _ _)) (one_int (by simp)) (by decide) (by unfold maxLen; omega) (by omega) (by simp; omega) _ rfl ?_; intro g9 cap9 w9 hown hgrow hat hlt5; obtain ⟨HB9, hw9, r0e, r1e, rle⟩ := napp1 HB8 HV1.out hown hgrow hw8; clear hown hgrow hat hlt5; obtain ⟨nq9, hnq9⟩ : ∃ q, q = n8 + 1 := ⟨_, rfl⟩; rw [← hnq9] at HB9 ⊢; have zhnq9 : (nq9 : Int) ≤ 39 := (by omega); clear hnq9))
      have HBF : Hid (bs4 ++ [Dsr.byte role.length] ++ role ++ [Dsr.byte ev.length] ++ ev ++ [Dsr.byte vd] = recQ c.reqs.length c.log role ev vd) := by
        show _ = _
        rw [HBS.out]
        rfl
      have hl9 : (bs4 ++ [Dsr.byte role.length] ++ role ++ [Dsr.byte ev.length] ++ ev ++ [Dsr.byte vd]).length ≤ 90000 := by
        have := HB9.out.2.len
        rw [← this]
        omega
      refine (rSealed_any HB9.out.2 hl9 (by simp)).mono ?_
      rintro x wz ⟨sz, nz, cz, rfl, oz, bz⟩
      rw [HBF.out] at oz
      have HZ : Hid (BOwn w.heap.size wz (.slice sz nz cz) (Dsr.sealed (recQ c.reqs.length c.log role ev vd)) ∧ Below w.heap.size w wz) := ⟨own_mono oz (by omega), HB9.out.1.bel.trans (bz.mono (by omega))⟩
      clear oz bz
      go_wp2_with fail
      go_ret2
      exact ⟨sz, nz, cz, rfl, HZ.out.1, HZ.out.2⟩
end Go.Proofs.YtjmcokcdaddpcaaGreatDoor
