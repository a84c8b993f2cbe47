import Derived.Test.YtjmcokcdaddpcaaGreatDoorCpA
set_option linter.unusedVariables false
set_option linter.unusedSimpArgs false
namespace Go.Proofs.YtjmcokcdaddpcaaGreatDoor
open Go.RowKit
/-- What holds of the row while equal neighbours are taken out: m rules were looked at, kk are kept. -/
structure CInv (rs R : List Dsr.Rl) (m kk : Nat) : Prop where
  len : R.length = rs.length
  low : R.take kk = Dsr.compact eqRl (rs.take m)
  high : R.drop kk = rs.drop kk
  lt : kk < m
  size : (Dsr.compact eqRl (rs.take m)).length = kk
theorem CInv.get {rs R : List Dsr.Rl} {m kk j : Nat} (h : CInv rs R m kk) (hj : kk ≤ j) : R[j]? = rs[j]? := by
  have e : (R.drop kk)[j - kk]? = (rs.drop kk)[j - kk]? := by rw [h.high]
  rw [List.getElem?_drop, List.getElem?_drop, Nat.add_sub_cancel' hj] at e
  exact e
theorem CInv.skip {rs R : List Dsr.Rl} {m kk : Nat} (h : CInv rs R m kk) {x y : Dsr.Rl} (hx : rs[m]? = some x) (hy : rs[m - 1]? = some y) (he : eqRl x y = true) : CInv rs R (m + 1) kk := by
  have e := Dsr.compact_step eqRl_iff rs m (by have := h.lt; omega) x y hx hy
  rw [if_pos he] at e
  exact ⟨h.len, by rw [e]; exact h.low, h.high, by have := h.lt; omega, by rw [e]; exact h.size⟩
theorem CInv.keep {rs R : List Dsr.Rl} {m kk : Nat} (h : CInv rs R m kk) {x y : Dsr.Rl} (hx : rs[m]? = some x) (hy : rs[m - 1]? = some y) (he : eqRl x y = false) : CInv rs (R.set kk x) (m + 1) (kk + 1) := by
  have e := Dsr.compact_step eqRl_iff rs m (by have := h.lt; omega) x y hx hy
  rw [if_neg (by rw [he]; decide)] at e
  have hm : m < rs.length := (List.getElem?_eq_some_iff.1 hx).1
  have hk : kk < R.length := by have := h.lt; have := h.len; omega
  refine ⟨by rw [List.length_set]; exact h.len, ?_, ?_, by have := h.lt; omega, by rw [e, List.length_append, h.size]; rfl⟩
  · rw [e, ← h.low, List.take_succ_eq_append_getElem (by rw [List.length_set]; exact hk), List.getElem_set_self, List.take_set_of_le (Nat.le_refl _)]
  · rw [List.drop_set_of_lt (by omega)]
    have e2 : (R.drop kk).drop 1 = (rs.drop kk).drop 1 := by rw [h.high]
    rw [List.drop_drop, List.drop_drop] at e2
    exact e2
theorem CInv.start {rs : List Dsr.Rl} {k : Nat} (h : Dsr.compact eqRl (rs.take k) = rs.take k) (h1 : 1 ≤ k) {x y : Dsr.Rl} (hx : rs[k]? = some x) (hy : rs[k - 1]? = some y) (he : eqRl x y = true) : CInv rs rs (k + 1) k := by
  have e := Dsr.compact_step eqRl_iff rs k h1 x y hx hy
  rw [if_pos he, h] at e
  have hk : k < rs.length := (List.getElem?_eq_some_iff.1 hx).1
  exact ⟨rfl, e.symm, rfl, by omega, by rw [e, List.length_take]; omega⟩
theorem grown_trans {w w1 w2 : World} {row : Option Nat} (h : w.grownBy w1 row) (h' : w1.grownBy w2 row) : w.grownBy w2 row :=
  ⟨h'.os.trans h.os, h'.tape.trans h.tape, h'.output.trans h.output, Nat.le_trans h.size h'.size, fun k hk hn => (h'.block k (Nat.lt_of_lt_of_le hk h.size) hn).trans (h.block k hk hn)⟩
theorem grown_dr {w w1 : World} {row : Option Nat} (h : w.grownBy w1 row) : w.grownBy w1.drew row := ⟨h.os, h.tape, h.output, h.size, h.block⟩
theorem grown_set {w w1 : World} {g o : Nat} {v : Value} (h : w.grownBy w1 (some g)) : w.grownBy (w1.setCell ⟨g, o, none⟩ v) (some g) :=
  ⟨h.os, h.tape, h.output, by simpa using h.size, fun k hk hn => (heap_setCell_other _ _ _ _ (fun e => hn (by rw [e]))).trans (h.block k hk hn)⟩
theorem grown_set3 {w w1 : World} {g o o' o'' : Nat} {v v' v'' : Value} (h : w.grownBy w1 (some g)) : w.grownBy (((w1.setCell ⟨g, o, none⟩ v).setCell ⟨g, o', none⟩ v').setCell ⟨g, o'', none⟩ v'').drew (some g) := grown_dr (grown_set (grown_set (grown_set h)))
set_option maxRecDepth 100000 in
set_option maxHeartbeats 3200000 in
theorem compact_any {B : Nat} {w : World} {v : Value} (rs : List Dsr.Rl) (h : w.ownsRow B 150 3 v rs.length (rs.flatMap rlC)) (hz : rs.length ≤ 1000) :
    Calls Tryz.prog 109 #[v] w fun e w' => ∃ v', e = .returned v' ∧ w'.ownsRow B 150 3 v' (Dsr.compact eqRl rs).length ((Dsr.compact eqRl rs).flatMap rlC) ∧ w.grownBy w' v.ownBlock ∧ v'.ownBlock = v.ownBlock := by
  by_cases h2 : rs.length < 2
  · obtain ⟨a, c, rfl⟩ := owned_shape h
    have e : Dsr.compact eqRl rs = rs := by
      rcases rs with _ | ⟨x, _ | ⟨y, l⟩⟩
      · rfl
      · rfl
      · simp at h2; omega
    have H : Hid (w.ownsRow B 150 3 (.slice a rs.length c) rs.length (rs.flatMap rlC) ∧ Dsr.compact eqRl rs = rs) := ⟨h, e⟩
    have h2' : (rs.length : Int) < 2 := by omega
    clear h e
    go_enter Tryz.func109, Tryz.ntmps109
    go_wp2_with fail
    go_ret
    exact ⟨_, rfl, by rw [H.out.2]; exact H.out.1, World.grownBy.refl _ _, rfl⟩
  · obtain ⟨g, cap, rfl, hB, hg⟩ := h.form (by omega)
    have H : Hid (w.ownsRow B 150 3 (.slice (some ⟨g, 0, none⟩) rs.length cap) rs.length (rs.flatMap rlC)) := h
    have hcap : rs.length ≤ cap := by
      rcases h.2 with ⟨h1, _⟩ | ⟨g', cap', cur', h1, _, _, h3, _⟩
      · cases h1
      · injection h1 with _ _ h4; omega
    have hge : ¬ ((rs.length : Int) < 2) := by omega
    have hz' : (rs.length : Int) ≤ 1000 := by omega
    have eqr := eq_run
    have nqr := neq_run
    have grd := guard_rl
    have HQ : Hid ((∀ x y w, (binOp .eql 150 (rlV x) (rlV y)).run Tryz.prog w = .ok (.bool (eqRl x y)) w) ∧ GuardAt Tryz.prog 150 rlV) := ⟨eqr, grd⟩
    clear h eqr nqr grd
    go_enter Tryz.func109, Tryz.ntmps109
    go_wp2_with fail
    go_loopg [3] (rs.length - 1) (fun g3 s3 wr => ∃ (k q : Nat), s3 = .int .i64 k ∧ 1 ≤ k ∧ k + g3 = rs.length ∧ wr = w.drewN q ∧ Dsr.compact eqRl (rs.take k) = rs.take k)
    case atStart =>
      refine ⟨1, 0, rfl, Nat.le_refl _, by omega, rfl, ?_⟩
      rcases rs with _ | ⟨x, l⟩
      · rfl
      · rfl
    case round =>
      obtain ⟨k, q, rfl, hk1, hk2, rfl, hC⟩ := hrel
      by_cases hlt : k < rs.length
      · obtain ⟨x, hx⟩ : ∃ x, rs[k]? = some x := ⟨_, List.getElem?_eq_getElem hlt⟩
        obtain ⟨y, hy⟩ : ∃ y, rs[k - 1]? = some y := ⟨_, List.getElem?_eq_getElem (by omega)⟩
        obtain ⟨c0, c1, c2⟩ := rl_cells H.out hx
        obtain ⟨d0, d1, d2⟩ := rl_cells H.out hy
        have hgd : ∀ (op : BinOp) (a b : Operand) (w : World), (eqGuard op 150 a b (rlV x) (rlV y)).run Tryz.prog w = .ok () w := fun op a b w => HQ.out.2 op a b x y w
        have heq : ∀ w, (binOp .eql 150 (rlV x) (rlV y)).run Tryz.prog w = .ok (.bool (eqRl x y)) w := fun w => eq_run x y w
        have HH : Hid (Dsr.compact eqRl (rs.take k) = rs.take k ∧ rs[k]? = some x ∧ rs[k - 1]? = some y) := ⟨hC, hx, hy⟩
        clear hC hx hy
        rcases hq : eqRl x y with _ | _
        · have HQ1 : Hid (eqRl x y = false) := hq
          go_wp2_with fail
          go_region
          all_goals
            go_wp2_with fail
            go_roundg (rs.length - (k + 1))
            case measure => omega
            case rel =>
              refine ⟨k + 1, q + 1, by go_num, by omega, by omega, rfl, ?_⟩
              have e := Dsr.compact_step eqRl_iff rs k hk1 x y HH.out.2.1 HH.out.2.2
              rw [if_neg (by rw [HQ1.out]; decide), HH.out.1] at e
              rw [e, List.take_succ_eq_append_getElem hlt, (List.getElem?_eq_some_iff.1 HH.out.2.1).2]
        · have HQ1 : Hid (eqRl x y = true) := hq
          have hkc : ¬ cap = k := by omega
          have hkc2 : (k : Int) ≤ (rs.length : Int) := by omega
          have hkc3 : (rs.length : Int) ≤ (cap : Int) := by omega
          go_wp2_with fail
          go_region
          all_goals
            go_wp2_with fail
            go_loopg [3, 5] (rs.length - (k + 1)) (fun g3 s3 s5 wr => ∃ (kk k2 : Nat) (R : List Dsr.Rl), s3 = .int .i64 kk ∧ s5 = .int .i64 k2 ∧ 1 ≤ k2 ∧ k + k2 + g3 = rs.length ∧ wr.ownsRow B 150 3 (.slice (some ⟨g, 0, none⟩) rs.length cap) rs.length (R.flatMap rlC) ∧ w.grownBy wr (some g) ∧ CInv rs R (k + k2) kk)
            case atStart => exact ⟨k, 1, rs, rfl, rfl, Nat.le_refl _, by omega, H.out, ⟨rfl, rfl, rfl, Nat.le_refl _, fun _ _ _ => rfl⟩, CInv.start HH.out.1 hk1 HH.out.2.1 HH.out.2.2 HQ1.out⟩
            case round =>
              obtain ⟨kk, k2, R, rfl, rfl, hk21, hkn, hO, hG, hI⟩ := hrel
              have hkk := hI.lt
              have hlen := hI.len
              have HI : Hid (wr.ownsRow B 150 3 (.slice (some ⟨g, 0, none⟩) rs.length cap) rs.length (R.flatMap rlC) ∧ w.grownBy wr (some g) ∧ CInv rs R (k + k2) kk) := ⟨hO, hG, hI⟩
              clear c0 c1 c2 d0 d1 d2 hgd heq hq
              by_cases hlt2 : k + k2 < rs.length
              · obtain ⟨x2, hx2⟩ : ∃ x, rs[k + k2]? = some x := ⟨_, List.getElem?_eq_getElem hlt2⟩
                obtain ⟨y2, hy2⟩ : ∃ y, rs[k + k2 - 1]? = some y := ⟨_, List.getElem?_eq_getElem (by omega)⟩
                obtain ⟨z2, hz2⟩ : ∃ z, R[kk]? = some z := ⟨_, List.getElem?_eq_getElem (by omega)⟩
                obtain ⟨c0, c1, c2⟩ := rl_cells hO ((hI.get (j := k + k2) (by omega)).trans hx2)
                obtain ⟨d0, d1, d2⟩ := rl_cells hO ((hI.get (j := k + k2 - 1) (by omega)).trans hy2)
                obtain ⟨t0, t1, t2⟩ := rl_cells hO hz2
                have fz : ∀ o, wr.frozen? ⟨g, o, none⟩ = false := fun o => hO.frozenAt o
                have e1 : (k + k2) * 3 = k * 3 + k2 * 3 := by omega
                have e2 : (k + k2 - 1) * 3 = k * 3 + (k2 - 1) * 3 := by omega
                rw [e1] at c0 c1 c2
                rw [e2] at d0 d1 d2
                have hgd : ∀ (op : BinOp) (a b : Operand) (w : World), (eqGuard op 150 a b (rlV x2) (rlV y2)).run Tryz.prog w = .ok () w := fun op a b w => HQ.out.2 op a b x2 y2 w
                have heq : ∀ w, (binOp .neq 150 (rlV x2) (rlV y2)).run Tryz.prog w = .ok (.bool (!eqRl x2 y2)) w := fun w => neq_run x2 y2 w
                have HX : Hid (rs[k + k2]? = some x2 ∧ rs[k + k2 - 1]? = some y2) := ⟨hx2, hy2⟩
                have hkl : (kk : Int) < (rs.length : Int) := by omega
                have hl1 : (k2 : Int) < ((rs.length - k : Nat) : Int) := by omega
                clear hO hG hI hx2 hy2 hz2 e1 e2
                rcases hq2 : eqRl x2 y2 with _ | _
                · have HQ2 : Hid (eqRl x2 y2 = false) := hq2
                  go_wp2_with fail
                  go_region
                  all_goals
                    go_wp2_with fail
                    go_roundg (rs.length - (k + (k2 + 1)))
                    case measure => omega
                    case rel =>
                      refine ⟨kk + 1, k2 + 1, R.set kk x2, by go_num, by go_num, by omega, by omega, own_set3 HI.out.1 hlen (by omega) x2, ?_, HI.out.2.2.keep HX.out.1 HX.out.2 HQ2.out⟩
                      exact grown_set3 HI.out.2.1
                · have HQ2 : Hid (eqRl x2 y2 = true) := hq2
                  go_wp2_with fail
                  go_region
                  all_goals
                    go_wp2_with fail
                    go_roundg (rs.length - (k + (k2 + 1)))
                    case measure => omega
                    case rel => exact ⟨kk, k2 + 1, R, rfl, by go_num, by omega, by omega, HI.out.1, grown_dr HI.out.2.1, HI.out.2.2.skip HX.out.1 HX.out.2 HQ2.out⟩
              · have hend : k + k2 = rs.length := by omega
                have hkl : kk < rs.length := by omega
                have hkl1 : (kk : Int) ≤ (rs.length : Int) := by omega
                have hkl2 : (kk : Int) ≤ (cap : Int) := by omega
                have hkl3 : ¬ cap = kk := by omega
                have hall : ∀ j, j < rs.length * 3 → (wr.cell? ⟨g, j, none⟩).isSome = true := fun j hj => by
                  rw [hO.cellAt j hj, List.getElem?_eq_getElem (by rw [Dsr.flatLen rlC 3 (fun _ => rfl)]; omega)]; rfl
                have hl2 : ¬ ((k2 : Int) < ((rs.length - k : Nat) : Int)) := by omega
                obtain ⟨vs, hcl⟩ : ∃ vs, ∀ ty, (Builtin.clear_ #[89] ty #[.slice (some ⟨g, kk * 3, none⟩) (rs.length - kk) (cap - kk)]).run Tryz.prog wr = .ok (.tuple #[]) (wr.setCells g (kk * 3) vs) := by
                  obtain ⟨vs, h1⟩ := clear_run wr 0 g (kk * 3) (rs.length - kk) (cap - kk) (by omega) (fun j hj => hall _ (by omega)) (fun j _ => hO.frozenAt _)
                  exact ⟨vs, fun ty => h1⟩
                have HV : Hid (∀ j, j < rs.length * 3 → (wr.cell? ⟨g, j, none⟩).isSome = true) := hall
                clear hO hG hI hall
                go_wp2_with fail
                go_ret
                refine ⟨_, rfl, ?_, ?_, rfl⟩
                · have I := HI.out.2.2
                  rw [hend] at I
                  have e3 : Dsr.compact eqRl rs = R.take kk := by have := I.low; rw [List.take_length] at this; exact this.symm
                  have e4 : (R.take kk).length = kk := by rw [List.length_take]; omega
                  have e5 : (R.flatMap rlC).take (kk * 3) = (R.take kk).flatMap rlC := by
                    have e6 : R.flatMap rlC = (R.take kk).flatMap rlC ++ (R.drop kk).flatMap rlC := by rw [← List.flatMap_append, List.take_append_drop]
                    rw [e6, List.take_left' (by rw [Dsr.flatLen rlC 3 (fun _ => rfl), e4])]
                  rw [e3, e4, ← e5]
                  exact own_behind (own_part HI.out.1 (by omega)) (Nat.le_refl _)
                · exact grown_trans HI.out.2.1 (grown_setCells _ _ _ _)
      · have hkn : k = rs.length := by omega
        subst hkn
        rw [List.take_length] at hC
        have HC : Hid (Dsr.compact eqRl rs = rs) := hC
        clear hC
        go_wp2_with fail
        go_ret
        exact ⟨_, rfl, by rw [HC.out]; exact H.out, ⟨rfl, rfl, rfl, Nat.le_refl _, fun _ _ _ => rfl⟩, rfl⟩
end Go.Proofs.YtjmcokcdaddpcaaGreatDoor
