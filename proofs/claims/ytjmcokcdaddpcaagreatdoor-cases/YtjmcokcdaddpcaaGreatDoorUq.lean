import Derived.Test.YtjmcokcdaddpcaaGreatDoorUp
import Derived.Test.YtjmcokcdaddpcaaGreatDoorUa
import Derived.Test.YtjmcokcdaddpcaaGreatDoorShelf
import Derived.Test.YtjmcokcdaddpcaaGreatDoorUb
set_option linter.unusedVariables false
set_option linter.unusedSimpArgs false
namespace Go.Proofs.YtjmcokcdaddpcaaGreatDoor
open Go.RowKit
/-- What holds of the row while equal neighbours are taken out: m rules were looked at, kk are kept. -/
structure CInv (rs R : List Dsr.Rl) (m kk : Nat) : Prop where
  len : R.length = rs.length
  low : R.take kk = Dsr.compact eqRl (rs.take m)
  high : R.drop kk = rs.drop kk
  lt : kk < m
  size : (Dsr.compact eqRl (rs.take m)).length = kk
theorem CInv.get {rs R : List Dsr.Rl} {m kk j : Nat} (h : CInv rs R m kk) (hj : kk ≤ j) : R[j]? = rs[j]? := by
  have e : (R.drop kk)[j - kk]? = (rs.drop kk)[j - kk]? := by rw [h.high]
  rw [List.getElem?_drop, List.getElem?_drop, Nat.add_sub_cancel' hj] at e
  exact e
theorem CInv.skip {rs R : List Dsr.Rl} {m kk : Nat} (h : CInv rs R m kk) {x y : Dsr.Rl} (hx : rs[m]? = some x) (hy : rs[m - 1]? = some y) (he : eqRl x y = true) : CInv rs R (m + 1) kk := by
  have e := Dsr.compact_step eqRl_iff rs m (by have := h.lt; omega) x y hx hy
  rw [if_pos he] at e
  exact ⟨h.len, by rw [e]; exact h.low, h.high, by have := h.lt; omega, by rw [e]; exact h.size⟩
theorem CInv.keep {rs R : List Dsr.Rl} {m kk : Nat} (h : CInv rs R m kk) {x y : Dsr.Rl} (hx : rs[m]? = some x) (hy : rs[m - 1]? = some y) (he : eqRl x y = false) : CInv rs (R.set kk x) (m + 1) (kk + 1) := by
  have e := Dsr.compact_step eqRl_iff rs m (by have := h.lt; omega) x y hx hy
  rw [if_neg (by rw [he]; decide)] at e
  have hm : m < rs.length := (List.getElem?_eq_some_iff.1 hx).1
  have hk : kk < R.length := by have := h.lt; have := h.len; omega
  refine ⟨by rw [List.length_set]; exact h.len, ?_, ?_, by have := h.lt; omega, by rw [e, List.length_append, h.size]; rfl⟩
  · rw [e, ← h.low, List.take_succ_eq_append_getElem (by rw [List.length_set]; exact hk), List.getElem_set_self, List.take_set_of_le (Nat.le_refl _)]
  · rw [List.drop_set_of_lt (by omega)]
    have e2 : (R.drop kk).drop 1 = (rs.drop kk).drop 1 := by rw [h.high]
    rw [List.drop_drop, List.drop_drop] at e2
    exact e2
theorem CInv.start {rs : List Dsr.Rl} {k : Nat} (h : Dsr.compact eqRl (rs.take k) = rs.take k) (h1 : 1 ≤ k) {x y : Dsr.Rl} (hx : rs[k]? = some x) (hy : rs[k - 1]? = some y) (he : eqRl x y = true) : CInv rs rs (k + 1) k := by
  have e := Dsr.compact_step eqRl_iff rs k h1 x y hx hy
  rw [if_pos he, h] at e
  have hk : k < rs.length := (List.getElem?_eq_some_iff.1 hx).1
  exact ⟨rfl, e.symm, rfl, by omega, by rw [e, List.length_take]; omega⟩
theorem grown_trans {w w1 w2 : World} {row : Option Nat} (h : w.grownBy w1 row) (h' : w1.grownBy w2 row) : w.grownBy w2 row :=
  ⟨h'.os.trans h.os, h'.tape.trans h.tape, h'.output.trans h.output, Nat.le_trans h.size h'.size, fun k hk hn => (h'.block k (Nat.lt_of_lt_of_le hk h.size) hn).trans (h.block k hk hn)⟩
theorem grown_dr {w w1 : World} {row : Option Nat} (h : w.grownBy w1 row) : w.grownBy w1.drew row := ⟨h.os, h.tape, h.output, h.size, h.block⟩
theorem grown_set {w w1 : World} {g o : Nat} {v : Value} (h : w.grownBy w1 (some g)) : w.grownBy (w1.setCell ⟨g, o, none⟩ v) (some g) :=
  ⟨h.os, h.tape, h.output, by simpa using h.size, fun k hk hn => (heap_setCell_other _ _ _ _ (fun e => hn (by rw [e]))).trans (h.block k hk hn)⟩
theorem grown_set3 {w w1 : World} {g o o' o'' : Nat} {v v' v'' : Value} (h : w.grownBy w1 (some g)) : w.grownBy (((w1.setCell ⟨g, o, none⟩ v).setCell ⟨g, o', none⟩ v').setCell ⟨g, o'', none⟩ v'').drew (some g) := grown_dr (grown_set (grown_set (grown_set h)))
set_option maxRecDepth 100000 in
set_option maxHeartbeats 3200000 in
theorem compact_any {B : Nat} {w : World} {v : Value} (rs : List Dsr.Rl) (h : w.ownsRow B 150 3 v rs.length (rs.flatMap rlC)) (hz : rs.length ≤ 1000) :
    Calls Tryz.prog 109 #[v] w fun e w' => ∃ v', e = .returned v' ∧ w'.ownsRow B 150 3 v' (Dsr.compact eqRl rs).length ((Dsr.compact eqRl rs).flatMap rlC) ∧ w.grownBy w' v.ownBlock ∧ v'.ownBlock = v.ownBlock := by
  by_cases h2 : rs.length < 2
  · obtain ⟨a, c, rfl⟩ := owned_shape h
    have e : Dsr.compact eqRl rs = rs := by
      rcases rs with _ | ⟨x, _ | ⟨y, l⟩⟩
      · rfl
      · rfl
      · simp at h2; omega
    have H : Hid (w.ownsRow B 150 3 (.slice a rs.length c) rs.length (rs.flatMap rlC) ∧ Dsr.compact eqRl rs = rs) := ⟨h, e⟩
    have h2' : (rs.length : Int) < 2 := by omega
    clear h e
    go_enter Tryz.func109, Tryz.ntmps109
    go_wp2_with fail
    go_ret
    exact ⟨_, rfl, by rw [H.out.2]; exact H.out.1, World.grownBy.refl _ _, rfl⟩
  · obtain ⟨g, cap, rfl, hB, hg⟩ := h.form (by omega)
    have H : Hid (w.ownsRow B 150 3 (.slice (some ⟨g, 0, none⟩) rs.length cap) rs.length (rs.flatMap rlC)) := h
    have hcap : rs.length ≤ cap := by
      rcases h.2 with ⟨h1, _⟩ | ⟨g', cap', cur', h1, _, _, h3, _⟩
      · cases h1
      · injection h1 with _ _ h4; omega
    have hge : ¬ ((rs.length : Int) < 2) := by omega
    have hz' : (rs.length : Int) ≤ 1000 := by omega
    have eqr := eq_run
    have nqr := neq_run
    have grd := guard_rl
    have HQ : Hid ((∀ x y w, (binOp .eql 150 (rlV x) (rlV y)).run Tryz.prog w = .ok (.bool (eqRl x y)) w) ∧ GuardAt Tryz.prog 150 rlV) := ⟨eqr, grd⟩
    clear h eqr nqr grd
    go_enter Tryz.func109, Tryz.ntmps109
    go_wp2_with fail
    go_loopg [3] (rs.length - 1) (fun g3 s3 wr => ∃ (k q : Nat), s3 = .int .i64 k ∧ 1 ≤ k ∧ k + g3 = rs.length ∧ wr = w.drewN q ∧ Dsr.compact eqRl (rs.take k) = rs.take k)
    case atStart =>
      refine ⟨1, 0, rfl, Nat.le_refl _, by omega, rfl, ?_⟩
      rcases rs with _ | ⟨x, l⟩
      · rfl
      · rfl
    case round =>
      obtain ⟨k, q, rfl, hk1, hk2, rfl, hC⟩ := hrel
      by_cases hlt : k < rs.length
      · obtain ⟨x, hx⟩ : ∃ x, rs[k]? = some x := ⟨_, List.getElem?_eq_getElem hlt⟩
        obtain ⟨y, hy⟩ : ∃ y, rs[k - 1]? = some y := ⟨_, List.getElem?_eq_getElem (by omega)⟩
        obtain ⟨c0, c1, c2⟩ := rl_cells H.out hx
        obtain ⟨d0, d1, d2⟩ := rl_cells H.out hy
        have hgd : ∀ (op : BinOp) (a b : Operand) (w : World), (eqGuard op 150 a b (rlV x) (rlV y)).run Tryz.prog w = .ok () w := fun op a b w => HQ.out.2 op a b x y w
        have heq : ∀ w, (binOp .eql 150 (rlV x) (rlV y)).run Tryz.prog w = .ok (.bool (eqRl x y)) w := fun w => eq_run x y w
        have HH : Hid (Dsr.compact eqRl (rs.take k) = rs.take k ∧ rs[k]? = some x ∧ rs[k - 1]? = some y) := ⟨hC, hx, hy⟩
        clear hC hx hy
        rcases hq : eqRl x y with _ | _
        · have HQ1 : Hid (eqRl x y = false) := hq
          go_wp2_with fail
          go_region
          all_goals
            go_wp2_with fail
            go_roundg (rs.length - (k + 1))
            case measure => omega
            case rel =>
              refine ⟨k + 1, q + 1, by go_num, by omega, by omega, rfl, ?_⟩
              have e := Dsr.compact_step eqRl_iff rs k hk1 x y HH.out.2.1 HH.out.2.2
              rw [if_neg (by rw [HQ1.out]; decide), HH.out.1] at e
              rw [e, List.take_succ_eq_append_getElem hlt, (List.getElem?_eq_some_iff.1 HH.out.2.1).2]
        · have HQ1 : Hid (eqRl x y = true) := hq
          have hkc : ¬ cap = k := by omega
          have hkc2 : (k : Int) ≤ (rs.length : Int) := by omega
          have hkc3 : (rs.length : Int) ≤ (cap : Int) := by omega
          go_wp2_with fail
          go_region
          all_goals
            go_wp2_with fail
            go_loopg [3, 5] (rs.length - (k + 1)) (fun g3 s3 s5 wr => ∃ (kk k2 : Nat) (R : List Dsr.Rl), s3 = .int .i64 kk ∧ s5 = .int .i64 k2 ∧ 1 ≤ k2 ∧ k + k2 + g3 = rs.length ∧ wr.ownsRow B 150 3 (.slice (some ⟨g, 0, none⟩) rs.length cap) rs.length (R.flatMap rlC) ∧ w.grownBy wr (some g) ∧ CInv rs R (k + k2) kk)
            case atStart => exact ⟨k, 1, rs, rfl, rfl, Nat.le_refl _, by omega, H.out, ⟨rfl, rfl, rfl, Nat.le_refl _, fun _ _ _ => rfl⟩, CInv.start HH.out.1 hk1 HH.out.2.1 HH.out.2.2 HQ1.out⟩
            case round =>
              obtain ⟨kk, k2, R, rfl, rfl, hk21, hkn, hO, hG, hI⟩ := hrel
              have hkk := hI.lt
              have hlen := hI.len
              have HI : Hid (wr.ownsRow B 150 3 (.slice (some ⟨g, 0, none⟩) rs.length cap) rs.length (R.flatMap rlC) ∧ w.grownBy wr (some g) ∧ CInv rs R (k + k2) kk) := ⟨hO, hG, hI⟩
              clear c0 c1 c2 d0 d1 d2 hgd heq hq
              by_cases hlt2 : k + k2 < rs.length
              · obtain ⟨x2, hx2⟩ : ∃ x, rs[k + k2]? = some x := ⟨_, List.getElem?_eq_getElem hlt2⟩
                obtain ⟨y2, hy2⟩ : ∃ y, rs[k + k2 - 1]? = some y := ⟨_, List.getElem?_eq_getElem (by omega)⟩
                obtain ⟨z2, hz2⟩ : ∃ z, R[kk]? = some z := ⟨_, List.getElem?_eq_getElem (by omega)⟩
                obtain ⟨c0, c1, c2⟩ := rl_cells hO ((hI.get (j := k + k2) (by omega)).trans hx2)
                obtain ⟨d0, d1, d2⟩ := rl_cells hO ((hI.get (j := k + k2 - 1) (by omega)).trans hy2)
                obtain ⟨t0, t1, t2⟩ := rl_cells hO hz2
                have fz : ∀ o, wr.frozen? ⟨g, o, none⟩ = false := fun o => hO.frozenAt o
                have e1 : (k + k2) * 3 = k * 3 + k2 * 3 := by omega
                have e2 : (k + k2 - 1) * 3 = k * 3 + (k2 - 1) * 3 := by omega
                rw [e1] at c0 c1 c2
                rw [e2] at d0 d1 d2
                have hgd : ∀ (op : BinOp) (a b : Operand) (w : World), (eqGuard op 150 a b (rlV x2) (rlV y2)).run Tryz.prog w = .ok () w := fun op a b w => HQ.out.2 op a b x2 y2 w
                have heq : ∀ w, (binOp .neq 150 (rlV x2) (rlV y2)).run Tryz.prog w = .ok (.bool (!eqRl x2 y2)) w := fun w => neq_run x2 y2 w
                have HX : Hid (rs[k + k2]? = some x2 ∧ rs[k + k2 - 1]? = some y2) := ⟨hx2, hy2⟩
                have hkl : (kk : Int) < (rs.length : Int) := by omega
                have hl1 : (k2 : Int) < ((rs.length - k : Nat) : Int) := by omega
                clear hO hG hI hx2 hy2 hz2 e1 e2
                rcases hq2 : eqRl x2 y2 with _ | _
                · have HQ2 : Hid (eqRl x2 y2 = false) := hq2
                  go_wp2_with fail
                  go_region
                  all_goals
                    go_wp2_with fail
                    go_roundg (rs.length - (k + (k2 + 1)))
                    case measure => omega
                    case rel =>
                      refine ⟨kk + 1, k2 + 1, R.set kk x2, by go_num, by go_num, by omega, by omega, own_set3 HI.out.1 hlen (by omega) x2, ?_, HI.out.2.2.keep HX.out.1 HX.out.2 HQ2.out⟩
                      exact grown_set3 HI.out.2.1
                · have HQ2 : Hid (eqRl x2 y2 = true) := hq2
                  go_wp2_with fail
                  go_region
                  all_goals
                    go_wp2_with fail
                    go_roundg (rs.length - (k + (k2 + 1)))
                    case measure => omega
                    case rel => exact ⟨kk, k2 + 1, R, rfl, by go_num, by omega, by omega, HI.out.1, grown_dr HI.out.2.1, HI.out.2.2.skip HX.out.1 HX.out.2 HQ2.out⟩
              · have hend : k + k2 = rs.length := by omega
                have hkl : kk < rs.length := by omega
                have hkl1 : (kk : Int) ≤ (rs.length : Int) := by omega
                have hkl2 : (kk : Int) ≤ (cap : Int) := by omega
                have hkl3 : ¬ cap = kk := by omega
                have hall : ∀ j, j < rs.length * 3 → (wr.cell? ⟨g, j, none⟩).isSome = true := fun j hj => by
                  rw [hO.cellAt j hj, List.getElem?_eq_getElem (by rw [Dsr.flatLen rlC 3 (fun _ => rfl)]; omega)]; rfl
                have hl2 : ¬ ((k2 : Int) < ((rs.length - k : Nat) : Int)) := by omega
                obtain ⟨vs, hcl⟩ : ∃ vs, ∀ ty, (Builtin.clear_ #[89] ty #[.slice (some ⟨g, kk * 3, none⟩) (rs.length - kk) (cap - kk)]).run Tryz.prog wr = .ok (.tuple #[]) (wr.setCells g (kk * 3) vs) := by
                  obtain ⟨vs, h1⟩ := clear_run wr 0 g (kk * 3) (rs.length - kk) (cap - kk) (by omega) (fun j hj => hall _ (by omega)) (fun j _ => hO.frozenAt _)
                  exact ⟨vs, fun ty => h1⟩
                have HV : Hid (∀ j, j < rs.length * 3 → (wr.cell? ⟨g, j, none⟩).isSome = true) := hall
                clear hO hG hI hall
                go_wp2_with fail
                go_ret
                refine ⟨_, rfl, ?_, ?_, rfl⟩
                · have I := HI.out.2.2
                  rw [hend] at I
                  have e3 : Dsr.compact eqRl rs = R.take kk := by have := I.low; rw [List.take_length] at this; exact this.symm
                  have e4 : (R.take kk).length = kk := by rw [List.length_take]; omega
                  have e5 : (R.flatMap rlC).take (kk * 3) = (R.take kk).flatMap rlC := by
                    have e6 : R.flatMap rlC = (R.take kk).flatMap rlC ++ (R.drop kk).flatMap rlC := by rw [← List.flatMap_append, List.take_append_drop]
                    rw [e6, List.take_left' (by rw [Dsr.flatLen rlC 3 (fun _ => rfl), e4])]
                  rw [e3, e4, ← e5]
                  exact own_behind (own_part HI.out.1 (by omega)) (Nat.le_refl _)
                · exact grown_trans HI.out.2.1 (grown_setCells _ _ _ _)
      · have hkn : k = rs.length := by omega
        subst hkn
        rw [List.take_length] at hC
        have HC : Hid (Dsr.compact eqRl rs = rs) := hC
        clear hC
        go_wp2_with fail
        go_ret
        exact ⟨_, rfl, by rw [HC.out]; exact H.out, ⟨rfl, rfl, rfl, Nat.le_refl _, fun _ _ _ => rfl⟩, rfl⟩
end Go.Proofs.YtjmcokcdaddpcaaGreatDoor
set_option linter.unusedVariables false
set_option linter.unusedSimpArgs false
namespace Go.Proofs.YtjmcokcdaddpcaaGreatDoor
open Go.RowKit
/-- A graph behind a pointer. -/
structure GS (B G : Nat) (w : World) (ps : List EvS) (rs : List Dsr.Rl) (ve vr : Value) : Prop where
  low : B ≤ G
  blk : w.heap[G]? = some (.cells #[ve, vr] 91 (0, 0))
  evs : w.ownsRow B 144 5 ve ps.length (ps.flatMap encE)
  rls : w.ownsRow B 150 3 vr rs.length (rs.flatMap rlC)
  rol : ∀ p ∈ ps, w.ownsRow B 9 1 (slV p.2) p.1.roles.length (p.1.roles.map strV)
  apart : (some G :: ve.ownBlock :: vr.ownBlock :: ps.map (fun p => (slV p.2).ownBlock)).Pairwise Differ
theorem GS.lt {B G : Nat} {w : World} {ps : List EvS} {rs : List Dsr.Rl} {ve vr : Value} (h : GS B G w ps rs ve vr) : G < w.heap.size := (Array.getElem?_eq_some_iff.1 h.blk).1
theorem GS.below {B G : Nat} {w w' : World} {ps : List EvS} {rs : List Dsr.Rl} {ve vr : Value} (h : GS B G w ps rs ve vr) (hb : Below w.heap.size w w') : GS B G w' ps rs ve vr :=
  ⟨h.low, by rw [hb.block _ h.lt]; exact h.blk, ownsRow_of_block h.evs (fun k hk _ => hb.block k hk), ownsRow_of_block h.rls (fun k hk _ => hb.block k hk), fun p hp => ownsRow_of_block (h.rol p hp) (fun k hk _ => hb.block k hk), h.apart⟩
theorem differ_ne' {x y : Option Nat} (hd : Differ x y) {k : Nat} (hy : y = some k) : x ≠ some k := fun hx => differ_ne hd hx hy
/-- The events' row is written anew. -/
theorem GS.putE {B G : Nat} {w w' : World} {ps ps' : List EvS} {rs : List Dsr.Rl} {ve vr : Value} (h : GS B G w ps rs ve vr) (hp : ps'.Perm ps) (ho : w'.ownsRow B 144 5 ve ps'.length (ps'.flatMap encE)) (hg : w.grownBy w' ve.ownBlock) : GS B G w' ps' rs ve vr := by
  have ha := h.apart
  simp only [List.pairwise_cons, List.forall_mem_cons] at ha
  obtain ⟨⟨b1, b2, b4⟩, ⟨e1, e3⟩, r2, p2⟩ := ha
  refine ⟨h.low, ?_, ho, ?_, ?_, ?_⟩
  · rw [hg.block G h.lt (fun e => differ_ne b1 rfl e.symm)]; exact h.blk
  · exact ownsRow_of_block h.rls fun k hk hv => hg.block k hk (fun e => differ_ne e1 e.symm hv)
  · intro p hpp
    have hm := hp.mem_iff.1 hpp
    exact ownsRow_of_block (h.rol p hm) fun k hk hv => hg.block k hk (fun e => differ_ne (e3 _ (List.mem_map.2 ⟨p, hm, rfl⟩)) e.symm hv)
  · have hpm := hp.map (fun p : EvS => (slV p.2).ownBlock)
    simp only [List.pairwise_cons, List.forall_mem_cons]
    refine ⟨⟨b1, b2, fun y hy => b4 y (hpm.mem_iff.1 hy)⟩, ⟨e1, fun y hy => e3 y (hpm.mem_iff.1 hy)⟩, fun y hy => r2 y (hpm.mem_iff.1 hy), ?_⟩
    exact (hpm.pairwise_iff (fun {a b} hab => differ_symm hab)).2 p2
/-- The rules' row is written anew; the slice may be cut. -/
theorem GS.putR {B G : Nat} {w w' : World} {ps : List EvS} {rs rs' : List Dsr.Rl} {ve vr : Value} (h : GS B G w ps rs ve vr) (ho : w'.ownsRow B 150 3 vr rs'.length (rs'.flatMap rlC)) (hg : w.grownBy w' vr.ownBlock) : GS B G w' ps rs' ve vr := by
  have ha := h.apart
  simp only [List.pairwise_cons, List.forall_mem_cons] at ha
  obtain ⟨⟨b1, b2, b4⟩, ⟨e1, e3⟩, r2, p2⟩ := ha
  refine ⟨h.low, ?_, ?_, ho, ?_, h.apart⟩
  · rw [hg.block G h.lt (fun e => differ_ne b2 rfl e.symm)]; exact h.blk
  · exact ownsRow_of_block h.evs fun k hk hv => hg.block k hk (fun e => differ_ne e1 hv e.symm)
  · intro p hm
    exact ownsRow_of_block (h.rol p hm) fun k hk hv => hg.block k hk (fun e => differ_ne (r2 _ (List.mem_map.2 ⟨p, hm, rfl⟩)) e.symm hv)
def sortRoles (p : EvS) : EvS := ({ p.1 with roles := p.1.roles.mergeSort fun x y => decide (x ≤ y) }, p.2)
/-- The roles of one event are put in order. -/
theorem GS.putS {B G : Nat} {w w' : World} {ps : List EvS} {rs : List Dsr.Rl} {ve vr : Value} (h : GS B G w ps rs ve vr) {i : Nat} {p : EvS} (hi : ps[i]? = some p) (ho : w'.ownsRow B 9 1 (slV p.2) p.1.roles.length ((p.1.roles.mergeSort fun x y => decide (x ≤ y)).map strV)) (hg : w.grownBy w' (slV p.2).ownBlock) : GS B G w' (ps.set i (sortRoles p)) rs ve vr := by
  have hil : i < ps.length := (List.getElem?_eq_some_iff.1 hi).1
  have hip : ps[i] = p := (List.getElem?_eq_some_iff.1 hi).2
  have ha := h.apart
  simp only [List.pairwise_cons, List.forall_mem_cons] at ha
  obtain ⟨⟨b1, b2, b4⟩, ⟨e1, e3⟩, r2, p2⟩ := ha
  have hpm : p ∈ ps := List.mem_of_getElem? hi
  have hpo : (slV p.2).ownBlock ∈ ps.map (fun p => (slV p.2).ownBlock) := List.mem_map.2 ⟨p, hpm, rfl⟩
  have hflat : (ps.set i (sortRoles p)).flatMap encE = ps.flatMap encE := by
    have : (ps.set i (sortRoles p)).map encE = ps.map encE := by
      rw [List.map_set]
      apply List.ext_getElem?
      intro j
      rw [List.getElem?_set]
      split
      · rename_i hij; subst hij
        simp only [List.length_map, hil, if_true, List.getElem?_map, hi, Option.map_some]
        rfl
      · rfl
    rw [List.flatMap_def, List.flatMap_def, this]
  have hown : (ps.set i (sortRoles p)).map (fun p => (slV p.2).ownBlock) = ps.map (fun p => (slV p.2).ownBlock) := by
    rw [List.map_set]
    apply List.ext_getElem?
    intro j
    rw [List.getElem?_set]
    split
    · rename_i hij; subst hij
      simp only [List.length_map, hil, if_true, List.getElem?_map, hi, Option.map_some]
      rfl
    · rfl
  refine ⟨h.low, ?_, ?_, ?_, ?_, by rw [hown]; exact h.apart⟩
  · rw [hg.block G h.lt (fun e => differ_ne (b4 _ hpo) rfl e.symm)]; exact h.blk
  · rw [hflat, List.length_set]
    exact ownsRow_of_block h.evs fun k hk hv => hg.block k hk (fun e => differ_ne (e3 _ hpo) hv e.symm)
  · exact ownsRow_of_block h.rls fun k hk hv => hg.block k hk (fun e => differ_ne (r2 _ hpo) hv e.symm)
  · intro q hq
    obtain ⟨j, hj, hjq⟩ := List.getElem_of_mem hq
    have hjl : j < ps.length := by simpa using hj
    by_cases hij : i = j
    · subst hij
      rw [List.getElem_set_self] at hjq
      subst hjq
      show w'.ownsRow B 9 1 (slV p.2) (p.1.roles.mergeSort fun x y => decide (x ≤ y)).length _
      rw [List.length_mergeSort]
      exact ho
    · rw [List.getElem_set_ne hij] at hjq
      subst hjq
      refine ownsRow_of_block (h.rol _ (List.getElem_mem hjl)) fun k hk hv => hg.block k hk (fun e => ?_)
      have hd : Differ ((ps.map (fun p => (slV p.2).ownBlock))[i]'(by simpa using hil)) ((ps.map (fun p => (slV p.2).ownBlock))[j]'(by simpa using hjl)) := by
        rcases Nat.lt_or_ge i j with hlt | hge
        · exact List.pairwise_iff_getElem.1 p2 i j _ _ hlt
        · exact differ_symm (List.pairwise_iff_getElem.1 p2 j i _ _ (by omega))
      simp only [List.getElem_map, hip] at hd
      exact differ_ne hd e.symm hv
end Go.Proofs.YtjmcokcdaddpcaaGreatDoor
namespace Go.Proofs.YtjmcokcdaddpcaaGreatDoor
open Go.RowKit
/-- The first n events' roles are in order. -/
def sorted1 (ps : List EvS) (n : Nat) : List EvS := (ps.take n).map sortRoles ++ ps.drop n
theorem sorted1_len (ps : List EvS) (n : Nat) : (sorted1 ps n).length = ps.length := by simp [sorted1]; omega
theorem sorted1_at (ps : List EvS) (n : Nat) (h : n < ps.length) : (sorted1 ps n)[n]? = ps[n]? := by
  unfold sorted1
  rw [List.getElem?_append_right (by simp; omega)]
  simp only [List.length_map, List.length_take, List.getElem?_drop]
  congr 1; omega
theorem sorted1_step (ps : List EvS) (n : Nat) (p : EvS) (h : ps[n]? = some p) : (sorted1 ps n).set n (sortRoles p) = sorted1 ps (n + 1) := by
  have hn : n < ps.length := (List.getElem?_eq_some_iff.1 h).1
  have hp : ps[n] = p := (List.getElem?_eq_some_iff.1 h).2
  unfold sorted1
  rw [List.set_append_right _ _ (by simp; omega)]
  have e : n - ((ps.take n).map sortRoles).length = 0 := by simp; omega
  rw [e, List.drop_eq_getElem_cons hn, List.set_cons_zero, List.take_succ_eq_append_getElem hn, hp]
  simp
theorem sorted1_zero (ps : List EvS) : sorted1 ps 0 = ps := by simp [sorted1]
theorem sorted1_all (ps : List EvS) : sorted1 ps ps.length = ps.map sortRoles := by simp [sorted1]
theorem sorted1_row (ps : List EvS) (n : Nat) : (sorted1 ps n).flatMap encE = ps.flatMap encE := by
  unfold sorted1
  rw [List.flatMap_append]
  have : ((ps.take n).map sortRoles).flatMap encE = (ps.take n).flatMap encE := by
    rw [List.flatMap_map]; rfl
  rw [this, ← List.flatMap_append, List.take_append_drop]
theorem ev_cells {w : World} {B g cap n : Nat} {ps : List EvS} (h : w.ownsRow B 144 5 (.slice (some ⟨g, 0, none⟩) n cap) n (ps.flatMap encE)) {k : Nat} {p : EvS} (hk : ps[k]? = some p) :
    w.cell? ⟨g, k * 5, none⟩ = some (strV p.1.name) ∧ w.cell? ⟨g, k * 5 + 1, none⟩ = some (slV p.2) ∧ w.cell? ⟨g, k * 5 + 2, none⟩ = some (.bool p.1.done) ∧ w.cell? ⟨g, k * 5 + 3, none⟩ = some (.bool p.1.inn) ∧ w.cell? ⟨g, k * 5 + 4, none⟩ = some (.bool p.1.due) :=
  ⟨own_cell h ((Dsr.flatM 5 encE (fun _ => rfl) ps k p 0 hk (by omega)).trans rfl), own_cell h ((Dsr.flatM 5 encE (fun _ => rfl) ps k p 1 hk (by omega)).trans rfl), own_cell h ((Dsr.flatM 5 encE (fun _ => rfl) ps k p 2 hk (by omega)).trans rfl), own_cell h ((Dsr.flatM 5 encE (fun _ => rfl) ps k p 3 hk (by omega)).trans rfl), own_cell h ((Dsr.flatM 5 encE (fun _ => rfl) ps k p 4 hk (by omega)).trans rfl)⟩
theorem GS.size {B G : Nat} {w : World} {ps : List EvS} {rs : List Dsr.Rl} {ve vr : Value} (h : GS B G w ps rs ve vr) : B ≤ w.heap.size := by have := h.lt; have := h.low; omega
/-- What a list in order is. -/
structure Ordered (ps : List EvS) (rs : List Dsr.Rl) (ps' : List EvS) (rs' : List Dsr.Rl) : Prop where
  pe : ps'.Perm ps
  se : ps'.Pairwise (fun a b => 0 ≤ cfE b a)
  pr : rs'.Perm rs
  sr : rs'.Pairwise (fun a b => 0 ≤ cmpRl b a)
set_option maxRecDepth 100000 in
set_option maxHeartbeats 3200000 in
theorem putInOrder_any {B G : Nat} {w : World} {ps : List EvS} {rs : List Dsr.Rl} {ve vr : Value} (h : GS B G w ps rs ve vr) (hp : ps.length ≤ 1000) (hr : rs.length ≤ 1000) (hro : ∀ p ∈ ps, p.1.roles.length ≤ 1000) :
    Calls Tryz.prog 66 #[ptr G] w fun x w' => x = .returned (.tuple #[]) ∧ ∃ ps' rs' vr', Ordered ps rs ps' rs' ∧ GS B G w' (ps'.map sortRoles) (Dsr.compact eqRl rs') ve vr' ∧ Below B w w' := by
  obtain ⟨c0, c1, fz⟩ := cells2 h.blk
  have H : Hid (GS B G w ps rs ve vr) := h
  clear h
  go_enter Tryz.func66, Tryz.ntmps66
  go_wp2_with fail
  refine (sortEvents_any ps H.out.evs (by omega)).mono ?_
  rintro x w1 ⟨rfl, ps', hpe, hse, ho, hg⟩
  have G1 := H.out.putE hpe ho hg
  have b1 : Below B w w1 := (Below.refl _ _).grown hg H.out.size (fun k hk => (H.out.evs.lt k hk).1)
  have hl' : ps'.length = ps.length := hpe.length_eq
  have hpz : (ps'.length : Int) ≤ 1000 := by omega
  have hro' : ∀ p ∈ ps', p.1.roles.length ≤ 1000 := fun p hp => hro p (hpe.mem_iff.1 hp)
  obtain ⟨ae, ce, hve⟩ := owned_shape G1.evs
  subst hve
  clear c0 c1 fz
  obtain ⟨c0, c1, fz⟩ := cells2 G1.blk
  have H1 : Hid (GS B G w1 ps' rs (.slice ae ps'.length ce) vr ∧ Below B w w1 ∧ ps'.Perm ps ∧ ps'.Pairwise (fun a b => 0 ≤ cfE b a) ∧ (∀ p ∈ ps', p.1.roles.length ≤ 1000)) := ⟨G1, b1, hpe, hse.imp (fun h => by omega), hro'⟩
  clear G1 b1 hpe hse ho hg hro hro'
  go_wp2_with fail
  go_loopg [14] ps'.length (fun k i wr => ∃ n : Nat, i = .int .i64 n ∧ n + k = ps'.length ∧ GS B G wr (sorted1 ps' n) rs (.slice ae ps'.length ce) vr ∧ Below B w1 wr)
  case atStart => exact ⟨0, rfl, by omega, by rw [sorted1_zero]; exact H1.out.1, Below.refl _ _⟩
  case round =>
    obtain ⟨n, rfl, hn, hG, hB⟩ := hrel
    by_cases hlt : n < ps'.length
    · obtain ⟨p, hpn⟩ : ∃ p, ps'[n]? = some p := ⟨_, List.getElem?_eq_getElem hlt⟩
      have hev := hG.evs
      rw [sorted1_row, sorted1_len] at hev
      obtain ⟨ge, ce', hge, _, _⟩ := hev.form (by omega)
      injection hge with hge1 hge2 hge3
      subst hge1
      subst hge3
      obtain ⟨d0, d1, d2, d3, d4⟩ := ev_cells hev hpn
      have hpm : p ∈ ps' := List.mem_of_getElem? hpn
      have hat : (sorted1 ps' n)[n]? = some p := (sorted1_at ps' n hlt).trans hpn
      have hrow := hG.rol p (List.mem_of_getElem? hat)
      have HH : Hid (GS B G wr (sorted1 ps' n) rs (.slice (some ⟨ge, 0, none⟩) ps'.length ce) vr ∧ Below B w1 wr ∧ ps'[n]? = some p ∧ (sorted1 ps' n)[n]? = some p ∧ wr.ownsRow B 9 1 (slV p.2) p.1.roles.length (p.1.roles.map strV) ∧ p.1.roles.length ≤ 1000) := ⟨hG, hB, hpn, hat, hrow, H1.out.2.2.2.2 p hpm⟩
      have hslv : slV p.2 = .slice p.2.1 p.2.2.1 p.2.2.2 := rfl
      rw [hslv] at d1
      clear hG hB hpn hat hrow hev hpm hslv
      go_wp2_with fail
      refine (sortStrings_any p.1.roles (HH.out.2.2.2.2.1.alloc _) (by have := HH.out.2.2.2.2.2; omega)).mono ?_
      rintro x w2 ⟨rfl, ho2, hg2⟩
      have hS2 := HH.out.1.size
      have A1 : GS B G (wr.alloc (.cells #[strV p.1.name, slV p.2, .bool p.1.done, .bool p.1.inn, .bool p.1.due] 144)) (sorted1 ps' n) rs (.slice (some ⟨ge, 0, none⟩) ps'.length ce) vr := HH.out.1.below ((Below.refl _ _).alloc (Nat.le_refl _) _)
      have G2 := A1.putS HH.out.2.2.2.1 ho2 hg2
      rw [sorted1_step ps' n p HH.out.2.2.1] at G2
      have b2 : Below B w1 w2 := (HH.out.2.1.alloc hS2 _).grown hg2 (by simp; omega) (fun k hk => (HH.out.2.2.2.2.1.lt k hk).1)
      have H2 : Hid (GS B G w2 (sorted1 ps' (n + 1)) rs (.slice (some ⟨ge, 0, none⟩) ps'.length ce) vr ∧ Below B w1 w2) := ⟨G2, b2⟩
      clear ho2 hg2 A1 G2 b2
      go_wp2_with fail
      go_roundg (ps'.length - (n + 1))
      case measure => omega
      case rel => exact ⟨n + 1, by go_num, by omega, H2.out.1, H2.out.2⟩
    · have hn' : n = ps'.length := by omega
      subst hn'
      rw [sorted1_all] at hG
      obtain ⟨e0, e1, fe⟩ := cells2 hG.blk
      have H2 : Hid (GS B G wr (ps'.map sortRoles) rs (.slice ae ps'.length ce) vr ∧ Below B w wr) := ⟨hG, H1.out.2.1.trans hB⟩
      clear hG hB hlt c0 c1 fz
      go_wp2_with fail
      refine (sortRules_any rs H2.out.1.rls (by omega)).mono ?_
      rintro x w3 ⟨rfl, rs', hpr, hsr, ho3, hg3⟩
      have G3 := H2.out.1.putR ho3 hg3
      have b3 : Below B w w3 := H2.out.2.grown hg3 H2.out.1.size (fun k hk => (H2.out.1.rls.lt k hk).1)
      clear e0 e1 fe
      obtain ⟨e0, e1, fe⟩ := cells2 G3.blk
      have H3 : Hid (GS B G w3 (ps'.map sortRoles) rs' (.slice ae ps'.length ce) vr ∧ Below B w w3 ∧ rs'.Perm rs ∧ rs'.Pairwise (fun a b => 0 ≤ cmpRl b a)) := ⟨G3, b3, hpr, hsr.imp (fun h => by omega)⟩
      have hl3 : rs'.length = rs.length := hpr.length_eq
      clear G3 b3 hpr hsr ho3 hg3
      go_wp2_with fail
      refine (compact_any rs' H3.out.1.rls (by omega)).mono ?_
      rintro x w4 ⟨v', rfl, ho4, hg4, hb4⟩
      obtain ⟨a4, c4, hv4⟩ := owned_shape ho4
      subst hv4
      have hap := H3.out.1.apart
      simp only [List.pairwise_cons, List.forall_mem_cons] at hap
      have hGne : some G ≠ vr.ownBlock := fun e => differ_ne hap.1.2.1 rfl e.symm
      have q4 : w4.heap[G]? = some (.cells #[.slice ae ps'.length ce, vr] 91 (0, 0)) := by rw [hg4.block G H3.out.1.lt hGne]; exact H3.out.1.blk
      obtain ⟨g0, g1, fg⟩ := cells2 q4
      have b4 : Below B w w4 := H3.out.2.1.grown hg4 H3.out.1.size (fun k hk => (H3.out.1.rls.lt k hk).1)
      have H4 : Hid (GS B G (w4.setCell ⟨G, 1, none⟩ (.slice a4 (Dsr.compact eqRl rs').length c4)) (ps'.map sortRoles) (Dsr.compact eqRl rs') (.slice ae ps'.length ce) (.slice a4 (Dsr.compact eqRl rs').length c4) ∧ Below B w (w4.setCell ⟨G, 1, none⟩ (.slice a4 (Dsr.compact eqRl rs').length c4))) := by
        refine ⟨?_, b4.setCell H3.out.1.low _⟩
        have hl4 := H3.out.1.lt
        have keep : ∀ k, k < w3.heap.size → some k ≠ vr.ownBlock → k ≠ G → (w4.setCell ⟨G, 1, none⟩ (.slice a4 (Dsr.compact eqRl rs').length c4)).heap[k]? = w3.heap[k]? := fun k hk h1 h2 => (heap_setCell_other _ _ _ _ h2).trans (hg4.block k hk h1)
        refine ⟨H3.out.1.low, ?_, ?_, ?_, ?_, ?_⟩
        · rw [blk_set q4]; simp
        · exact ownsRow_of_block H3.out.1.evs fun k hk hv => keep k hk (fun e => differ_ne hap.2.1.1 hv e.symm) (fun e => differ_ne hap.1.1 rfl (by rw [hv, e]))
        · exact ownsRow_of_block ho4 fun k hk hv => heap_setCell_other _ _ _ _ (fun e => hGne (by rw [← hb4, hv]; exact congrArg some (show G = k from e.symm)))
        · intro p hpm
          have hm : (slV p.2).ownBlock ∈ (ps'.map sortRoles).map (fun p => (slV p.2).ownBlock) := List.mem_map.2 ⟨p, hpm, rfl⟩
          exact ownsRow_of_block (H3.out.1.rol p hpm) fun k hk hv => keep k hk (fun e => differ_ne (hap.2.2.1 _ hm) e.symm hv) (fun e => differ_ne (hap.1.2.2 _ hm) rfl (by rw [hv, e]))
        · simp only [List.pairwise_cons, List.forall_mem_cons, hb4]
          exact hap
      clear ho4 hg4 hap q4 b4
      go_wp2_with fail
      go_end0
      exact ⟨rfl, ps', rs', _, ⟨H1.out.2.2.1, H1.out.2.2.2.1, H3.out.2.2.1, H3.out.2.2.2⟩, H4.out.1, H4.out.2⟩
end Go.Proofs.YtjmcokcdaddpcaaGreatDoor
set_option linter.unusedVariables false
set_option linter.unusedSimpArgs false
namespace Go.Proofs.YtjmcokcdaddpcaaGreatDoor
open Go.RowKit
theorem zip_ex : ∀ (es : List Dsr.Ev) (rv : List Value), rv.length = es.length → (∀ v ∈ rv, ∃ a n c, v = .slice a n c) → ∃ ps : List EvS, ps.map (·.1) = es ∧ ps.map (fun p => slV p.2) = rv
  | [], [], _, _ => ⟨[], rfl, rfl⟩
  | [], _ :: _, h, _ => by simp at h
  | _ :: _, [], h, _ => by simp at h
  | e :: es, v :: rv, h, hv => by
    obtain ⟨a, n, c, hvv⟩ := hv v (by simp)
    obtain ⟨ps, h1, h2⟩ := zip_ex es rv (by simpa using h) (fun x hx => hv x (by simp [hx]))
    exact ⟨(e, a, n, c) :: ps, by simp [h1], by rw [List.map_cons, h2, hvv]; rfl⟩
theorem evCells_flat : ∀ ps : List EvS, evCells (ps.map (·.1)) (ps.map (fun p => slV p.2)) = ps.flatMap encE
  | [] => rfl
  | p :: ps => by
    show evC p.1 (slV p.2) ++ evCells _ _ = _
    rw [evCells_flat ps]; rfl
/-- The graph that the reader has gathered, copied. -/
theorem RdAt.graph {B b : Nat} {w : World} {t : ByteArray} {r : Dsr.Rd} {s : St} (h : RdAt B b w t r s) : ∃ ps : List EvS, ps.map (·.1) = r.events ∧ GS B w.heap.size (w.alloc (.cells #[s.ve, s.vr] 91)) ps r.rules s.ve s.vr := by
  obtain ⟨ps, h1, h2⟩ := zip_ex r.events s.rv h.len (fun v hv => by
    obtain ⟨i, hi, rfl⟩ := List.getElem_of_mem hv
    have hie : i < r.events.length := by rw [← h.len]; exact hi
    obtain ⟨a, c, e⟩ := owned_shape (h.rol i r.events[i] s.rv[i] (List.getElem?_eq_getElem hie) (List.getElem?_eq_getElem hi))
    exact ⟨a, _, c, e⟩)
  refine ⟨ps, h1, ?_⟩
  have hl : ps.length = r.events.length := by rw [← h1]; simp
  have hbn := h.lt
  have hlow := h.low
  have ha := h.apart
  simp only [List.pairwise_cons, List.forall_mem_cons] at ha
  obtain ⟨⟨b1, b2, b3, b4⟩, ⟨e1, e2, e3⟩, ⟨r1, r2⟩, u1, p⟩ := ha
  have dG : ∀ x : Option Nat, (∀ k, x = some k → k < w.heap.size) → Differ (some w.heap.size) x := fun x hx => .inr (fun e => by have := hx _ e.symm; omega)
  have hown : ps.map (fun p => (slV p.2).ownBlock) = s.rv.map Value.ownBlock := by rw [← h2, List.map_map]; rfl
  refine ⟨by omega, heap_alloc_new _ _, ?_, h.rls.alloc _, ?_, ?_⟩
  · have := h.evs.alloc (.cells #[s.ve, s.vr] 91)
    rw [← h1, ← h2, evCells_flat] at this
    simpa using this
  · intro q hq
    obtain ⟨i, hi, rfl⟩ := List.getElem_of_mem hq
    have hie : i < r.events.length := by omega
    have hir : i < s.rv.length := by rw [h.len]; exact hie
    have x1 : r.events[i] = ps[i].1 := by
      have : (ps.map (·.1))[i]'(by simpa using hi) = r.events[i] := by simp only [h1]
      rw [← this]; simp
    have x2 : s.rv[i] = slV ps[i].2 := by
      have : (ps.map (fun p => slV p.2))[i]'(by simpa using hi) = s.rv[i] := by simp only [h2]
      rw [← this]; simp
    have := h.rol i r.events[i] s.rv[i] (List.getElem?_eq_getElem hie) (List.getElem?_eq_getElem hir)
    rw [x1, x2] at this
    exact this.alloc _
  · rw [hown]
    simp only [List.pairwise_cons, List.forall_mem_cons]
    exact ⟨⟨dG _ (fun k hk => (h.evs.lt k hk).2), dG _ (fun k hk => (h.rls.lt k hk).2), fun y hy => dG _ (fun k hk => by
      obtain ⟨v, hv, rfl⟩ := List.mem_map.1 hy
      exact (h.rvOwn hv hk).2)⟩, ⟨e1, e3⟩, r2, p⟩
/-- A graph in order. -/
def OrdG (r : Dsr.Rd) (es : List Dsr.Ev) (rs : List Dsr.Rl) : Prop :=
  ∃ (es0 : List Dsr.Ev) (rs0 : List Dsr.Rl), es0.Perm r.events ∧ es0.Pairwise (fun a b => 0 ≤ Dsr.cmpB b.name a.name) ∧ es = es0.map (fun e => { e with roles := e.roles.mergeSort fun x y => decide (x ≤ y) }) ∧ rs0.Perm r.rules ∧ rs0.Pairwise (fun a b => 0 ≤ cmpRl b a) ∧ rs = Dsr.compact eqRl rs0
theorem compact_mem {α : Type} {eq : α → α → Bool} : ∀ (l : List α) (p x : α), x ∈ Dsr.compactFrom eq p l → x ∈ l
  | [], _, x, h => by simp [Dsr.compactFrom] at h
  | y :: l, p, x, h => by
    unfold Dsr.compactFrom at h
    split at h
    · exact List.mem_cons_of_mem _ (compact_mem l p x h)
    · rcases List.mem_cons.1 h with rfl | h
      · exact List.mem_cons_self
      · exact List.mem_cons_of_mem _ (compact_mem l y x h)
theorem compact_len {α : Type} {eq : α → α → Bool} : ∀ (l : List α) (p : α), (Dsr.compactFrom eq p l).length ≤ l.length
  | [], _ => Nat.le_refl _
  | y :: l, p => by
    unfold Dsr.compactFrom
    split
    · have := compact_len (eq := eq) l p; simp; omega
    · have := compact_len (eq := eq) l y; simp; omega
theorem compact_mem' {α : Type} {eq : α → α → Bool} (l : List α) (x : α) (h : x ∈ Dsr.compact eq l) : x ∈ l := by
  rcases l with _ | ⟨y, l⟩
  · exact h
  · rcases List.mem_cons.1 h with rfl | h
    · exact List.mem_cons_self
    · exact List.mem_cons_of_mem _ (compact_mem l y x h)
theorem compact_len' {α : Type} {eq : α → α → Bool} (l : List α) : (Dsr.compact eq l).length ≤ l.length := by
  rcases l with _ | ⟨y, l⟩
  · exact Nat.le_refl _
  · have := compact_len (eq := eq) l y; simp [Dsr.compact]; omega
theorem flat_bound {α : Type} (f : α → List UInt8) (M : Nat) : ∀ l : List α, (∀ x ∈ l, (f x).length ≤ M) → (l.flatMap f).length ≤ l.length * M
  | [], _ => by simp
  | a :: l, h => by
    rw [List.flatMap_cons, List.length_append, List.length_cons, Nat.succ_mul]
    have := flat_bound f M l (fun x hx => h x (by simp [hx]))
    have := h a (by simp)
    omega
theorem small_of {r : Dsr.Rd} {es : List Dsr.Ev} {rs : List Dsr.Rl} (h : OrdG r es rs) (ho : Dsr.RdOk 400 r) (he : r.events.length ≤ 10) (hr : r.rules.length ≤ 20) : Small es rs := by
  obtain ⟨es0, rs0, hpe, _, rfl, hpr, _, rfl⟩ := h
  have hev : ∀ e ∈ es0.map (fun e => ({ e with roles := e.roles.mergeSort fun x y => decide (x ≤ y) } : Dsr.Ev)), Dsr.EvOk 400 e := by
    intro e hm
    obtain ⟨e0, hm0, rfl⟩ := List.mem_map.1 hm
    have k := ho.ev e0 (hpe.mem_iff.1 hm0)
    exact ⟨k.name, by simp [List.length_mergeSort]; exact k.some, by simp [List.length_mergeSort]; exact k.few, fun x hx => k.role x (by simpa using hx)⟩
  have hru : ∀ e ∈ Dsr.compact eqRl rs0, Dsr.RlOk 400 e := fun e hm => ho.ru e (hpr.mem_iff.1 (compact_mem' _ _ hm))
  have hel : (es0.map (fun e => ({ e with roles := e.roles.mergeSort fun x y => decide (x ≤ y) } : Dsr.Ev))).length ≤ 10 := by rw [List.length_map, hpe.length_eq]; exact he
  have hrl : (Dsr.compact eqRl rs0).length ≤ 20 := by have := compact_len' (eq := eqRl) rs0; have := hpr.length_eq; omega
  have hj : ∀ e ∈ es0.map (fun e => ({ e with roles := e.roles.mergeSort fun x y => decide (x ≤ y) } : Dsr.Ev)), (Dsr.joinC e.roles).length ≤ 2412 := fun e hm => by
    have k := hev e hm
    have := Dsr.join_len e.roles 400 k.role
    have := Nat.mul_le_mul_right 402 k.few
    omega
  refine ⟨fun e hm => ⟨(hev e hm).some, by have := (hev e hm).few; omega, by have := hj e hm; omega, by have := (hev e hm).name; omega⟩, fun e hm => ⟨(hru e hm).kind, by have := (hru e hm).left; omega, by have := (hru e hm).right; omega⟩, by omega, by omega, ?_⟩
  have h1 := flat_bound Dsr.evLine 3000 _ (fun e hm => by
    have a := hj e hm
    have b := (hev e hm).name
    unfold Dsr.evLine
    simp only [List.length_append, List.length_cons, List.length_nil]
    split <;> split <;> split <;> simp <;> omega)
  have h2 := flat_bound Dsr.ruLine 1000 _ (fun e hm => by
    have a := (hru e hm).left
    have b := (hru e hm).right
    have c := (hru e hm).kind
    have d : (Dsr.signs.getD e.kind []).length ≤ 4 := by
      rcases hk : e.kind with _ | _ | _ | _ | _ | k
      · simp [Dsr.signs]
      · simp [Dsr.signs]
      · simp [Dsr.signs]
      · simp [Dsr.signs]
      · simp [Dsr.signs]
      · omega
    unfold Dsr.ruLine
    simp only [List.length_append, List.length_cons, List.length_nil]
    omega)
  rw [Dsr.text, List.length_append]
  have h3 := Nat.mul_le_mul_right 3000 hel
  have h4 := Nat.mul_le_mul_right 1000 hrl
  omega
end Go.Proofs.YtjmcokcdaddpcaaGreatDoor
set_option linter.unusedVariables false
set_option linter.unusedSimpArgs false
namespace Go.Proofs.YtjmcokcdaddpcaaGreatDoor
open Go.RowKit
theorem clone_any (s : ByteArray) (w : World) (h : s.size ≤ 281474976710656) :
    Calls Tryz.prog 58 #[.string s] w fun e w' => e = .returned (.string s) ∧ Below w.heap.size w w' := by
  go_enter Tryz.func58, Tryz.ntmps58
  go_wp2_with fail
  refine (Tryz.stringslite_Clone s w h).mono ?_
  rintro e w1 ⟨rfl, b1⟩
  have HB : Hid (Below w.heap.size w w1) := b1
  clear b1
  go_wp2_with fail
  go_ret
  exact ⟨rfl, HB.out⟩
end Go.Proofs.YtjmcokcdaddpcaaGreatDoor
