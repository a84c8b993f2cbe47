import Derived.Test.YtjmcokcdaddpcaaGreatDoorUu
import Derived.Deep.CutRange
set_option linter.unusedVariables false
set_option linter.unusedSimpArgs false
namespace Go.Proofs.YtjmcokcdaddpcaaGreatDoor
open Go.RowKit
/-- A number out of bytes. -/
def numQ (bs : List UInt8) : Nat := bs.foldl (fun n b => 256 * n + b.toNat) 0
theorem numQ_snoc (bs : List UInt8) (b : UInt8) : numQ (bs ++ [b]) = 256 * numQ bs + b.toNat := by
  unfold numQ; rw [List.foldl_append]; rfl
theorem numF_lt : ∀ (bs : List UInt8) (n : Nat), bs.foldl (fun n b => 256 * n + b.toNat) n < (n + 1) * 256 ^ bs.length
  | [], n => by simp
  | b :: bs, n => by
    have h := numF_lt bs (256 * n + b.toNat)
    have h2 := b.toNat_lt
    rw [List.foldl_cons, List.length_cons, Nat.pow_succ]
    refine Nat.lt_of_lt_of_le h ?_
    rw [Nat.mul_comm (256 ^ bs.length) 256, ← Nat.mul_assoc]
    exact Nat.mul_le_mul_right _ (by omega)
theorem numQ_lt (bs : List UInt8) : numQ bs < 256 ^ bs.length := by
  have := numF_lt bs 0
  simpa [numQ] using this
section
variable {N : Nat} {w : World} {cb : Nat} {c : RC} {a : RA}
set_option maxRecDepth 100000 in
set_option maxHeartbeats 1600000 in
theorem rcHead_any (h : RcAt N w cb c a) :
    Calls Tryz.prog 81 #[ptr cb] w fun x w' => x = .returned (.int .i64 (numQ (c.log.drop (c.log.length - 4)) : Nat)) ∧ Below w.heap.size w w' := by
  obtain ⟨k0, k1, k2, k3, k4, k5, kf⟩ := cells6R h.blk
  have hcl := h.lt
  obtain ⟨al, cl, hvl⟩ := owned_shape h.lg
  rw [hvl] at k2
  have hlg : w.ownsRow N 5 1 (.slice al c.log.length cl) c.log.length (c.log.map byV) := by have := h.lg; rw [hvl] at this; exact this
  obtain ⟨gl, rfl, hcl1, hcl2⟩ := own_some hlg (by have := h.ok.lo; omega)
  have HLG : Hid (w.ownsRow N 5 1 (.slice (some ⟨gl, 0, none⟩) c.log.length cl) c.log.length (c.log.map byV)) := hlg
  obtain ⟨n4, hn4⟩ : ∃ n4, c.log.length = n4 + 4 := ⟨c.log.length - 4, by have := h.ok.lo; omega⟩
  have hzl : (c.log.length : Int) ≤ 2000 := by have := h.ok.lg; omega
  have hw4 : IntKind.i64.wrap ((c.log.length : Int) - 4) = (n4 : Int) := by
    rw [hn4]
    have : ((n4 + 4 : Nat) : Int) - 4 = (n4 : Int) := by omega
    rw [this]
    exact wrap_nat n4 (by omega)
  have HN4 : Hid (c.log.length = n4 + 4) := hn4
  have hdl : (c.log.drop (c.log.length - 4)).length = 4 := by simp; omega
  have HD : Hid (c.log.drop (c.log.length - 4) = c.log.drop n4 ∧ (c.log.drop n4).length = 4) := ⟨by rw [show c.log.length - 4 = n4 by omega], by rw [show n4 = c.log.length - 4 by omega]; exact hdl⟩
  have hn4z : (n4 : Int) ≤ 2000 := by omega
  have hn4c : (n4 : Int) + 4 = (c.log.length : Int) := by omega
  clear h hvl hlg k0 k1 k3 k4 k5 hdl hn4
  go_enter Tryz.func81, Tryz.ntmps81
  go_wp2_with fail
  go_loopg [3, 4] 4 (fun g nv iv wr => ∃ q k : Nat, nv = .int .i64 q ∧ iv = .int .i64 (n4 + k : Nat) ∧ k + g = 4 ∧ q = numQ ((c.log.drop n4).take k) ∧ wr = w)
  case atStart => exact ⟨0, 0, rfl, rfl, rfl, rfl, rfl⟩
  case round =>
    obtain ⟨q, k, rfl, rfl, hk, hq, rfl⟩ := hrel
    have hqb : q < 256 ^ k := by
      rw [hq]
      refine Nat.lt_of_lt_of_le (numQ_lt _) (Nat.pow_le_pow_right (by decide) ?_)
      simp; omega
    by_cases hi : k < 4
    · obtain ⟨x, hx⟩ : ∃ x, (c.log.drop n4)[k]? = some x := ⟨_, List.getElem?_eq_getElem (by rw [HD.out.2]; exact hi)⟩
      have hx2 : (c.log.map byV)[n4 + k]? = some (byV x) := by
        rw [List.getElem?_drop] at hx
        rw [List.getElem?_map, hx]
        rfl
      have e0 := own_at HLG.out hx2
      have hgl := World.block_lt_of_cell? _ _ e0
      obtain ⟨m, rfl⟩ : ∃ m, gk = m + 1 := ⟨gk - 1, by omega⟩
      have hq3 : (q : Int) ≤ 16777215 := by
        have : 256 ^ k ≤ 256 ^ 3 := Nat.pow_le_pow_right (by decide) (by omega)
        omega
      have hx8 : (x.toNat : Int) ≤ 255 := by have := x.toNat_lt; omega
      have hx0 : (0 : Int) ≤ (x.toNat : Int) := by omega
      have hq0 : (0 : Int) ≤ (q : Int) := by omega
      have HK : Hid (q = numQ ((c.log.drop n4).take k) ∧ (c.log.drop n4)[k]? = some x) := ⟨hq, hx⟩
      obtain ⟨i, hii⟩ : ∃ i, i = n4 + k := ⟨_, rfl⟩
      rw [← hii] at e0 ⊢
      have hic : (i : Int) < (c.log.length : Int) := by omega
      have hicn : i < c.log.length := by omega
      have HI : Hid (i = n4 + k) := hii
      clear hq hx hx2 hqb hii
      go_wp2_with fail
      go_roundg m
      case measure => omega
      case rel => exact ⟨256 * q + x.toNat, k + 1, congrArg (Value.int .i64) (by omega), congrArg (Value.int .i64) (by have := HI.out; omega), by omega, by rw [List.take_add_one, HK.out.2, HK.out.1]; exact (numQ_snoc _ _).symm, rfl⟩
    · have hk4 : k = 4 := by omega
      have HK : Hid (q = numQ (c.log.drop (c.log.length - 4))) := by
        show _ = _
        rw [hq, HD.out.1, List.take_of_length_le (by rw [HD.out.2]; omega)]
      subst hk4
      obtain ⟨i, hii⟩ : ∃ i, i = n4 + 4 := ⟨_, rfl⟩
      have hic : i = c.log.length := by rw [hii]; exact HN4.out.symm
      rw [← hii]
      subst hic
      clear hq hqb hii
      go_wp2_with fail
      go_ret
      exact ⟨by rw [← HK.out]; rfl, Below.refl _ _⟩
end
theorem mark_kept {wc w5 : World} {B Bs n m : Nat} {v vs : Value} {xs ys : List Value} {o : Obj} (h : wc.ownsRow B 48 3 v n xs) (hs : wc.ownsRow Bs 9 1 vs m ys) (hg : (wc.alloc o).grownBy w5 vs.ownBlock) : w5.ownsRow B 48 3 v n xs := by
  refine ownsRow_of_block h (fun k hk hv => (hg.block k (by simp; omega) (fun e => ?_)).trans (Below.heap_alloc _ _ _ hk))
  obtain ⟨c1, h1⟩ := own_type h hv
  obtain ⟨c2, h2⟩ := own_type hs e.symm
  exact absurd (cells_type h1 h2) (by decide)
/-- What is enabled among the first events, by the document. -/
def enQ (l : LK) (evs : List Dsr.Ev) (role : List UInt8) (k : Nat) : List (List UInt8) := ((evs.take k).filter fun e => decide (saysQ l evs role e.name = 0)).map (·.name)
theorem enQ_yes {l : LK} {evs : List Dsr.Ev} {role : List UInt8} {k : Nat} {e : Dsr.Ev} (he : evs[k]? = some e) (hv : saysQ l evs role e.name = 0) : enQ l evs role (k + 1) = enQ l evs role k ++ [e.name] := by
  unfold enQ
  rw [List.take_add_one, he, List.filter_append, List.map_append]
  simp [hv]
theorem enQ_no {l : LK} {evs : List Dsr.Ev} {role : List UInt8} {k : Nat} {e : Dsr.Ev} (he : evs[k]? = some e) (hv : ¬ saysQ l evs role e.name = 0) : enQ l evs role (k + 1) = enQ l evs role k := by
  unfold enQ
  rw [List.take_add_one, he, List.filter_append, List.map_append]
  simp [hv]
theorem enQ_len (l : LK) (evs : List Dsr.Ev) (role : List UInt8) (k : Nat) : (enQ l evs role k).length ≤ k := by
  unfold enQ
  rw [List.length_map]
  refine Nat.le_trans (List.length_filter_le _ _) ?_
  simp
  omega
section
variable {N : Nat} {w : World} {cb : Nat} {c : RC} {a : RA}
set_option maxRecDepth 100000 in
set_option maxHeartbeats 3200000 in
theorem rcEnabled_any (h : RcAt N w cb c a) (role : List UInt8) :
    Calls Tryz.prog 127 #[ptr cb, strV role] w fun x w' => ∃ (v : Value) (out : List (List UInt8)), x = .returned v ∧ (out.Pairwise (· < ·) ∧ ∀ y, y ∈ out ↔ y ∈ enQ c.l (evsQ c) role (evsQ c).length ∧ y ≠ []) ∧ w'.ownsRow w.heap.size 9 1 v out.length (out.map strV) ∧ Below w.heap.size w w' := by
  obtain ⟨k0, k1, k2, k3, k4, k5, kf⟩ := cells6R h.blk
  have H : Hid (RcAt N w cb c a) := h
  have HC : Hid (Calls Tryz.prog 169 #[ptr cb] w fun x w' => ∃ v, x = .returned v ∧ w'.ownsRow w.heap.size 48 3 v (marksQ c.l c.reqs).length ((marksQ c.l c.reqs).flatMap mkC) ∧ Below w.heap.size w w') := rcMarks_any k0 k1 h.lt h.lk h.rq h.ok.sm (by have := h.ok.rq; omega)
  have hz : (c.l.events.length : Int) ≤ 400 := by have := h.ok.sm.evs; omega
  obtain ⟨ae, ce, ar, cr, au, cu, hve, hvr, hvu⟩ := h.lk.shapes
  have HV : Hid (a.s.ve = .slice ae c.l.events.length ce) := hve
  obtain ⟨i0, hi0, hz0, hz1, hz2⟩ := info_parts Tryz.infoStr
  have hcl := h.lt
  clear h k1 k2 k3 k4 k5 kf hve hvr hvu
  go_enter Tryz.func127, Tryz.ntmps127
  go_wp2_with fail
  refine HC.out.mono ?_
  rintro y w1 ⟨mv, rfl, o1, b1⟩
  obtain ⟨evs, hevs⟩ : ∃ evs, evs = marksQ c.l c.reqs := ⟨_, rfl⟩
  have HE : Hid (evs = evsQ c ∧ MkOf c.l evs ∧ evs.length = c.l.events.length) := ⟨hevs, by rw [hevs]; exact MkOf.marks _ _, by rw [hevs]; exact (MkOf.marks _ _).len⟩
  rw [← hevs] at o1
  obtain ⟨av, cv, rfl⟩ := owned_shape o1
  have H1 : Hid (w1.ownsRow w.heap.size 48 3 (.slice av evs.length cv) evs.length (evs.flatMap mkC) ∧ Below w.heap.size w w1) := ⟨o1, b1⟩
  clear o1 b1 hevs
  go_wp2_with fail
  go_loopg [5, 7] c.l.events.length (fun g v i wr => ∃ k : Nat, i = .int .i64 k ∧ k + g = c.l.events.length ∧ wr.ownsRow w.heap.size 9 1 v (enQ c.l evs role k).length ((enQ c.l evs role k).map strV) ∧ Below w.heap.size w wr ∧ wr.ownsRow w.heap.size 48 3 (.slice av evs.length cv) evs.length (evs.flatMap mkC))
  case atStart => exact ⟨0, rfl, by omega, World.ownsRow_nil _ _ _ _, H1.out.2, H1.out.1⟩
  case round =>
    obtain ⟨k, rfl, hk, hown, hb, hmk⟩ := hrel
    obtain ⟨ao, co, rfl⟩ := owned_shape hown
    have hR := H.out.below hb
    obtain ⟨d0, d1, d2, d3, d4, d5, df⟩ := cells6R hR.blk
    have c4 := hR.lk.cells.2.2.2.2.1
    rw [HV.out] at c4
    have hlt := hR.lk.lt
    have hcl1 := hR.lt
    clear d1 d2 d3 d4 d5 df
    by_cases hi : k < c.l.events.length
    · obtain ⟨x, hx⟩ : ∃ x, evs[k]? = some x := ⟨_, List.getElem?_eq_getElem (by rw [HE.out.2.2]; exact hi)⟩
      obtain ⟨e, hex, hnm, hro⟩ := HE.out.2.1.at hx
      obtain ⟨ge, v, rfl, hvx, hgl, e0, e1, e2, e3, e4, hd1, hd2⟩ := hR.lk.evAt HV.out hex
      rw [hnm] at e0
      obtain ⟨j, rfl⟩ : ∃ j, gk = j + 1 := ⟨gk - 1, by omega⟩
      have hel := enQ_len c.l evs role k
      obtain ⟨out, hout⟩ : ∃ out, out = enQ c.l evs role k := ⟨_, rfl⟩
      rw [← hout] at hown hel ⊢
      have HR : Hid (wr.ownsRow w.heap.size 9 1 (.slice ao out.length co) out.length (out.map strV) ∧ Below w.heap.size w wr ∧ evs[k]? = some x ∧ out = enQ c.l evs role k ∧ wr.ownsRow w.heap.size 48 3 (.slice av evs.length cv) evs.length (evs.flatMap mkC)) := ⟨hown, hb, hx, hout, hmk⟩
      have HLd : Hid (LkAt a.B a.b wr.drew c.l a.s) := hR.lk.aside (Below.refl _ _).drew
      have HMd : Hid (wr.drew.ownsRow w.heap.size 48 3 (.slice av evs.length cv) evs.length (evs.flatMap mkC)) := hmk.drew
      clear hown hb hx hout hmk hR hex hnm hro hvx e1 e2 e3 e4
      go_wp2_with fail
      go_cut [8] from 11 to 57 (fun vv wd => vv = .int .u8 (saysQ c.l evs role x.name : Nat) ∧ Below wr.heap.size wr wd)
      case first =>
        go_region_with (go_at_call 170; refine (rSays_any role x.name HLd.out HMd.out HE.out.2.1 H.out.ok.sm).mono ?_; rintro e w4 ⟨rfl, b4⟩)
        all_goals
          go_wp2_with fail
          go_meet
          case rel => exact ⟨rfl, ⟨b4.os, b4.tape, b4.output, b4.size, b4.block⟩⟩
      case rest =>
        obtain ⟨rfl, b4⟩ := hcut
        have f0 := (b4.cell (p := ⟨cb, 0, none⟩) hcl1).trans d0
        have f4 := (b4.cell (p := ⟨a.b, 4, none⟩) hlt).trans c4
        have fe := (b4.cell (p := ⟨ge, k * 5, none⟩) hgl).trans e0
        have hcl2 : cb < wc.heap.size := Nat.lt_of_lt_of_le hcl1 b4.size
        have hlt2 : a.b < wc.heap.size := Nat.lt_of_lt_of_le hlt b4.size
        have hgl2 : ge < wc.heap.size := Nat.lt_of_lt_of_le hgl b4.size
        have HB4 : Hid (Below w.heap.size w wc ∧ wc.ownsRow w.heap.size 9 1 (.slice ao out.length co) out.length (out.map strV) ∧ wc.ownsRow w.heap.size 48 3 (.slice av evs.length cv) evs.length (evs.flatMap mkC)) := ⟨HR.out.2.1.trans (b4.mono HR.out.2.1.size), ownsRow_of_block HR.out.1 (fun k hk _ => b4.block k hk), ownsRow_of_block HR.out.2.2.2.2 (fun k hk _ => b4.block k hk)⟩
        clear b4
        by_cases hs0 : saysQ c.l evs role x.name = 0
        · have HN : Hid (enQ c.l evs role (k + 1) = out ++ [x.name]) := by
            show _ = _
            rw [HR.out.2.2.2.1]
            exact enQ_yes HR.out.2.2.1 hs0
          rw [hs0]
          clear hs0
          have hwr : w.heap.size ≤ wc.heap.size := HB4.out.1.size
          go_wp2_with (at_builtin; refine wpList_append_lies _ rfl (.tmp 44) (.tmp 56) 22 rfl w.heap.size 9 i0 _ 1 16 Tryz.underlying22 hi0 hz0 hz1 hz2 rfl (by decide) (.slice ao out.length co) out.length _ (by simp [Act.eval, Act.put]) (HB4.out.2.1.alloc _) ⟨wc.heap.size, 0, none⟩ 1 1 [strV x.name] (by simp [Act.eval, Act.put]) rfl (by exact news_l (by simp)) (by intro u hu; simp at hu; subst hu; rfl) (by decide) (by unfold maxLen; omega) (by omega) (by simp; omega) _ rfl ?_; intro g' cap w5 hown hgrow hat hlt5)
          have b5 : Below w.heap.size w w5 := (HB4.out.1.alloc hwr _).grown hgrow (by simp; omega) (fun k hk => (HB4.out.2.1.lt k hk).1)
          have m5 : w5.ownsRow w.heap.size 48 3 (.slice av evs.length cv) evs.length (evs.flatMap mkC) := mark_kept HB4.out.2.2 HB4.out.2.1 hgrow
          go_roundg j
          case measure => omega
          case rel => exact ⟨k + 1, by go_num, by omega, by rw [HN.out]; simpa using hown, b5, m5⟩
        · have HN : Hid (enQ c.l evs role (k + 1) = out) := by
            show _ = _
            rw [HR.out.2.2.2.1]
            exact enQ_no HR.out.2.2.1 hs0
          have hs1 : ((saysQ c.l evs role x.name : Int) == 0) = false := by rw [beq_eq_false_iff_ne]; omega
          clear hs0
          go_wp2_with fail
          go_roundg j
          case measure => omega
          case rel => exact ⟨k + 1, by go_num, by omega, by rw [HN.out]; exact HB4.out.2.1, HB4.out.1, HB4.out.2.2⟩
    · have hkl : k = c.l.events.length := by omega
      subst hkl
      have hel := enQ_len c.l evs role c.l.events.length
      obtain ⟨out, hout⟩ : ∃ out, out = enQ c.l evs role c.l.events.length := ⟨_, rfl⟩
      rw [← hout] at hown hel ⊢
      have HR : Hid (wr.ownsRow w.heap.size 9 1 (.slice ao out.length co) out.length (out.map strV) ∧ Below w.heap.size w wr ∧ out = enQ c.l (evsQ c) role (evsQ c).length) := ⟨hown, hb, by rw [← HE.out.1, HE.out.2.2]; exact hout⟩
      clear hown hb hout hR hmk
      go_wp2_with fail
      refine (rOrdered_any HR.out.1 (by omega)).mono ?_
      rintro y w2 ⟨v', o', rfl, hso, oo, b2⟩
      have H2 : Hid ((o'.Pairwise (· < ·) ∧ ∀ y, y ∈ o' ↔ y ∈ out ∧ y ≠ []) ∧ w2.ownsRow w.heap.size 9 1 v' o'.length (o'.map strV) ∧ Below w.heap.size w w2) := ⟨hso, own_mono oo HR.out.2.1.size, HR.out.2.1.trans (b2.mono HR.out.2.1.size)⟩
      clear hso oo b2
      go_wp2_with fail
      go_ret
      exact ⟨v', o', rfl, by rw [← HR.out.2.2]; exact H2.out.1, H2.out.2.1, H2.out.2.2⟩
end
end Go.Proofs.YtjmcokcdaddpcaaGreatDoor
