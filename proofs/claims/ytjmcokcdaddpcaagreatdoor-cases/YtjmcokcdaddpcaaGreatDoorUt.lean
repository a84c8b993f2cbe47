import Derived.Test.YtjmcokcdaddpcaaGreatDoorCsD2
import Derived.LaidEqlPtr
set_option linter.unusedVariables false
set_option linter.unusedSimpArgs false
namespace Go.Proofs.YtjmcokcdaddpcaaGreatDoor
open Go.RowKit
section
variable {W : World} {b : Nat} {e : Dsr.Ev} {v : Value}
theorem evB_set {j : Nat} {u : Value} (h : W.heap[b]? = some (evB e v)) : (W.setCell ⟨b, j, none⟩ u).heap[b]? = some (.cells (#[strV e.name, v, .bool e.done, .bool e.inn, .bool e.due].setIfInBounds j u) 177 (0, 0)) := blk_set h j u
set_option maxRecDepth 100000 in
theorem evDue_any (h : W.heap[b]? = some (evB e v)) : Calls Tryz.prog 176 #[ptr b] W fun x w' => x = .returned (.tuple #[]) ∧ w'.heap[b]? = some (evB (Dsr.eff 2 e) v) ∧ Kp (· = b) W w' := by
  have hlt : b < W.heap.size := (Array.getElem?_eq_some_iff.1 h).1
  obtain ⟨e0, e1, e2, e3, e4, ef⟩ := evB_cells h
  have H : Hid (W.heap[b]? = some (evB e v)) := h
  clear h
  go_enter Tryz.func176, Tryz.ntmps176
  go_wp2_with fail
  go_end0
  exact ⟨rfl, (evB_set (e := e) H.out).trans (by simp [Dsr.eff]), (Kp.refl (fun k => k = b) W).setCell (.inl rfl) _⟩
set_option maxRecDepth 100000 in
theorem evIn_any (h : W.heap[b]? = some (evB e v)) : Calls Tryz.prog 177 #[ptr b] W fun x w' => x = .returned (.tuple #[]) ∧ w'.heap[b]? = some (evB (Dsr.eff 3 e) v) ∧ Kp (· = b) W w' := by
  have hlt : b < W.heap.size := (Array.getElem?_eq_some_iff.1 h).1
  obtain ⟨e0, e1, e2, e3, e4, ef⟩ := evB_cells h
  have H : Hid (W.heap[b]? = some (evB e v)) := h
  clear h
  go_enter Tryz.func177, Tryz.ntmps177
  go_wp2_with fail
  go_end0
  exact ⟨rfl, (evB_set (e := e) H.out).trans (by simp [Dsr.eff]), (Kp.refl (fun k => k = b) W).setCell (.inl rfl) _⟩
set_option maxRecDepth 100000 in
theorem evOut_any (h : W.heap[b]? = some (evB e v)) : Calls Tryz.prog 178 #[ptr b] W fun x w' => x = .returned (.tuple #[]) ∧ w'.heap[b]? = some (evB (Dsr.eff 4 e) v) ∧ Kp (· = b) W w' := by
  have hlt : b < W.heap.size := (Array.getElem?_eq_some_iff.1 h).1
  obtain ⟨e0, e1, e2, e3, e4, ef⟩ := evB_cells h
  have H : Hid (W.heap[b]? = some (evB e v)) := h
  clear h
  go_enter Tryz.func178, Tryz.ntmps178
  go_wp2_with fail
  go_end0
  exact ⟨rfl, (evB_set (e := e) H.out).trans (by simp [Dsr.eff]), (Kp.refl (fun k => k = b) W).setCell (.inl rfl) _⟩
set_option maxRecDepth 100000 in
theorem evFinish_any (h : W.heap[b]? = some (evB e v)) : Calls Tryz.prog 91 #[ptr b] W fun x w' => x = .returned (.tuple #[]) ∧ w'.heap[b]? = some (evB (Dsr.finish e) v) ∧ Kp (· = b) W w' := by
  have hlt : b < W.heap.size := (Array.getElem?_eq_some_iff.1 h).1
  obtain ⟨e0, e1, e2, e3, e4, ef⟩ := evB_cells h
  have H : Hid (W.heap[b]? = some (evB e v)) := h
  clear h
  go_enter Tryz.func91, Tryz.ntmps91
  go_wp2_with fail
  go_end0
  refine ⟨rfl, ?_, ?_⟩
  rotate_left
  · exact ((Kp.refl (fun k => k = b) W).setCell (a := ⟨b, 2, none⟩) (.inl rfl) _).setCell (a := ⟨b, 4, none⟩) (.inl rfl) _
  rw [blk_set (evB_set H.out)]
  simp [Dsr.finish]
set_option maxRecDepth 100000 in
set_option maxHeartbeats 1600000 in
theorem takeEffect_any {k : Nat} (h2 : 2 ≤ k) (hk : k < 5) (lp : Nat) (h : W.heap[b]? = some (evB e v)) : Calls Tryz.prog 135 #[.agg #[.int .u8 k, ptr lp, ptr b]] W fun x w' => x = .returned (.tuple #[]) ∧ w'.heap[b]? = some (evB (Dsr.eff k e) v) ∧ Kp (· = b) W w' := by
  have hlt : b < W.heap.size := (Array.getElem?_eq_some_iff.1 h).1
  have HX : Hid (∀ o1 o2, ((W.alloc o1).alloc o2).drew.heap[b]? = some (evB e v)) := fun o1 o2 => by
    show ((W.alloc o1).alloc o2).heap[b]? = _
    rw [Below.heap_alloc _ _ _ (by simp; omega), Below.heap_alloc _ _ _ hlt]; exact h
  have HY : Hid (∀ o1 o2 w1, Kp (· = b) ((W.alloc o1).alloc o2).drew w1 → Kp (· = b) W w1) := fun o1 o2 w1 hb => ((((Kp.refl _ _).alloc _).alloc _).drew).trans hb (fun k hk => .inl hk)
  clear h
  rcases k with _ | _ | _ | _ | _ | k
  · omega
  · omega
  · go_enter Tryz.func135, Tryz.ntmps135
    go_wp2_with fail
    go_region_with (go_at_call 176; refine (evDue_any (HX.out _ _)).mono ?_; rintro x w1 ⟨rfl, hb1, hb2⟩)
    all_goals (have HB : Hid (w1.heap[b]? = some (evB (Dsr.eff 2 e) v) ∧ Kp (· = b) W w1) := ⟨hb1, HY.out _ _ _ hb2⟩; clear hb1 hb2; go_wp2_with fail; go_end0; exact ⟨rfl, HB.out⟩)
  · go_enter Tryz.func135, Tryz.ntmps135
    go_wp2_with fail
    go_region_with (go_at_call 177; refine (evIn_any (HX.out _ _)).mono ?_; rintro x w1 ⟨rfl, hb1, hb2⟩)
    all_goals (have HB : Hid (w1.heap[b]? = some (evB (Dsr.eff 3 e) v) ∧ Kp (· = b) W w1) := ⟨hb1, HY.out _ _ _ hb2⟩; clear hb1 hb2; go_wp2_with fail; go_end0; exact ⟨rfl, HB.out⟩)
  · go_enter Tryz.func135, Tryz.ntmps135
    go_wp2_with fail
    go_region_with (go_at_call 178; refine (evOut_any (HX.out _ _)).mono ?_; rintro x w1 ⟨rfl, hb1, hb2⟩)
    all_goals (have HB : Hid (w1.heap[b]? = some (evB (Dsr.eff 4 e) v) ∧ Kp (· = b) W w1) := ⟨hb1, HY.out _ _ _ hb2⟩; clear hb1 hb2; go_wp2_with fail; go_end0; exact ⟨rfl, HB.out⟩)
  · omega
end
end Go.Proofs.YtjmcokcdaddpcaaGreatDoor
set_option linter.unusedVariables false
set_option linter.unusedSimpArgs false
namespace Go.Proofs.YtjmcokcdaddpcaaGreatDoor
open Go.RowKit
theorem below_alloc1S {w : World} (o : Obj) : Below w.heap.size w (w.alloc o) := (Below.refl _ _).alloc (Nat.le_refl _) _
section
variable {N : Nat} {w : World} {es : List Dsr.Ev} {rs : List Dsr.Rl} {a : SA}
theorem StAt.ruAt (h : StAt N w es rs a) {ar : Option Addr} {cr : Nat} (hv : a.vr = .slice ar rs.length cr) {i : Nat} {r : Dsr.Rl} (hr : rs[i]? = some r) :
    ∃ g, ar = some ⟨g, 0, none⟩ ∧ rs.length ≤ cr ∧ cr ≤ maxLen ∧ w.cell? ⟨g, i * 3, none⟩ = some (.int .u8 r.kind) ∧ w.cell? ⟨g, i * 3 + 1, none⟩ = some (ptr (ebOf (nms es) a.eb r.left)) ∧ w.cell? ⟨g, i * 3 + 2, none⟩ = some (ptr (ebOf (nms es) a.eb r.right)) := by
  have hi : i < rs.length := (List.getElem?_eq_some_iff.1 hr).1
  have h0 := h.own1
  rw [hv] at h0
  obtain ⟨g, rfl, h1, h2⟩ := own_someS h0 (by omega)
  have c0 := own_cellS h0 ((Dsr.flatM 3 (ruS (nms es) a.eb) (fun _ => rfl) rs i r 0 hr (by omega)).trans rfl)
  have c1 := own_cellS h0 ((Dsr.flatM 3 (ruS (nms es) a.eb) (fun _ => rfl) rs i r 1 hr (by omega)).trans rfl)
  have c2 := own_cellS h0 ((Dsr.flatM 3 (ruS (nms es) a.eb) (fun _ => rfl) rs i r 2 hr (by omega)).trans rfl)
  rw [Nat.add_zero] at c0
  exact ⟨g, rfl, h1, h2, c0, c1, c2⟩
theorem StAt.inj (h : StAt N w es rs a) {n m : List UInt8} (hn : n ∈ nms es) (hm : m ∈ nms es) : (ebOf (nms es) a.eb n = ebOf (nms es) a.eb m) ↔ n = m := by
  refine ⟨fun he => ?_, fun e => by rw [e]⟩
  obtain ⟨i, e, b, v, h1, h2, h3, h4, h5, h6⟩ := h.at hn
  obtain ⟨j, e', b', v', g1, g2, g3, g4, g5, g6⟩ := h.at hm
  rw [h5, g5] at he
  subst he
  have e1 := (List.getElem?_eq_some_iff.1 h3).2
  have e2 := (List.getElem?_eq_some_iff.1 g3).2
  have := nodup_ij h.nodup.1 (List.getElem?_eq_some_iff.1 h3).1 (List.getElem?_eq_some_iff.1 g3).1 (e1.trans e2.symm)
  subst this
  rw [h1] at g1
  cases g1
  rw [← h2, ← g2]
theorem info_ev : (Tryz.prog.info? 177).map (·.size) = some 5 := by kernel_rfl
/-- Two events are compared by their blocks. -/
theorem eqlEv {W : World} {x y : Nat} {ex ey : Dsr.Ev} {vx vy : Value} (hx : W.heap[x]? = some (evB ex vx)) (hy : W.heap[y]? = some (evB ey vy)) : (binOp .eql 175 (ptr x) (ptr y)).run Tryz.prog W = .ok (.bool (decide (x = y))) W := by
  obtain ⟨j, hj, hjs⟩ := Option.map_eq_some_iff.1 info_ev
  by_cases h : x = y
  · subst h
    simpa using run_eql_ptr_same (P := Tryz.prog) W ⟨x, 0, none⟩ Tryz.underlying175 hj
  · have := run_eql_ptr_other (P := Tryz.prog) W (a := ⟨x, 0, none⟩) (b := ⟨y, 0, none⟩) Tryz.underlying175 hj (by rw [hjs]; decide) (fun e => h (by injection e)) hx hy
    simpa [h] using this
set_option maxRecDepth 100000 in
set_option maxHeartbeats 1600000 in
theorem isBlocked1_any {W : World} {Bx b lb rb k : Nat} {e : Dsr.Ev} {v : Value} (hk : k < 5) (hB : Bx < W.heap.size) (hc : W.cell? ⟨Bx, 0, none⟩ = some (ptr b)) (hl : W.heap[lb]? = some (evB e v)) {er eb : Dsr.Ev} {vr vb : Value} (hr : W.heap[rb]? = some (evB er vr)) (hbb : W.heap[b]? = some (evB eb vb)) :
    Calls Tryz.prog 133 #[.agg #[.int .u8 k, ptr lb, ptr rb], ptr Bx] W fun x w' => x = .returned (.bool (decide (rb = b) && Dsr.hinders k e)) ∧ Below W.heap.size W w' := by
  have HX : Hid (∀ o, (W.alloc o).heap[lb]? = some (evB e v)) := fun o => by
    rw [(below_alloc1S o).block lb (Array.getElem?_eq_some_iff.1 hl).1]; exact hl
  have he : ∀ o, (binOp .eql 175 (ptr rb) (ptr b)).run Tryz.prog (W.alloc o) = .ok (.bool (decide (rb = b))) (W.alloc o) := fun o => eqlEv (by rw [(below_alloc1S o).block rb (Array.getElem?_eq_some_iff.1 hr).1]; exact hr) (by rw [(below_alloc1S o).block b (Array.getElem?_eq_some_iff.1 hbb).1]; exact hbb)
  clear hl hr hbb
  by_cases h0 : rb = b
  · subst h0
    simp only [decide_true] at he
    go_enter Tryz.func133, Tryz.ntmps133
    go_wp2_with fail
    refine (blocks_any hk rb (HX.out _)).mono ?_
    rintro x w1 ⟨rfl, hb⟩
    have HB : Hid (Below W.heap.size W w1) := below_alloc hb
    clear hb
    go_wp2_with fail
    go_ret
    exact ⟨ret_bool (by simp), HB.out⟩
  · have H0 : Hid (¬ rb = b) := h0
    simp only [h0, decide_false] at he
    clear h0
    go_enter Tryz.func133, Tryz.ntmps133
    go_wp2_with fail
    go_ret
    exact ⟨ret_bool (by simp [H0.out]), (Below.refl _ _).alloc (Nat.le_refl _) _⟩
set_option maxRecDepth 100000 in
set_option maxHeartbeats 1600000 in
theorem ifRule_any (h : StAt N w es rs a) (hg : GOk es rs) {n : List UInt8} (hn : n ∈ nms es) {Bx : Nat} (hB : Bx < w.heap.size) (hc : w.cell? ⟨Bx, 0, none⟩ = some (ptr (ebOf (nms es) a.eb n))) :
    Calls Tryz.prog 172 #[a.vr, .func (.func 133) #[] #[ptr Bx]] w fun x w' => (∃ i : Int, x = .returned (.int .i64 i) ∧ decide (0 ≤ i) = Dsr.blockedP es rs n) ∧ Below w.heap.size w w' := by
  obtain ⟨ae, ce, ar, cr, hve, hvr⟩ := h.shapes
  have H : Hid (StAt N w es rs a ∧ a.vr = .slice ar rs.length cr ∧ GOk es rs ∧ n ∈ nms es) := ⟨h, hvr, hg, hn⟩
  have hz : (rs.length : Int) ≤ 1000 := by have := hg.rsl; omega
  rw [hvr]
  clear h hg hve hvr hn
  obtain ⟨p, hp⟩ : ∃ p : Dsr.Rl → Bool, p = fun r => (r.right == n) && Dsr.blocksR es r := ⟨_, rfl⟩
  have HP : Hid (p = fun r => (r.right == n) && Dsr.blocksR es r) := hp
  have hbp : Dsr.blockedP es rs n = rs.any p := by rw [hp]; rfl
  rw [hbp]
  clear hp hbp
  generalize hnb : ebOf (nms es) a.eb n = nb at hc
  have HN : Hid (ebOf (nms es) a.eb n = nb) := hnb
  clear hnb
  go_enter Tryz.func172, Tryz.ntmps172
  go_wp2_with fail
  go_loopg [8] rs.length (fun k i wr => ∃ m : Nat, i = .int .i64 m ∧ m + k = rs.length ∧ (rs.take m).any p = false ∧ Below w.heap.size w wr)
  case atStart => exact ⟨0, rfl, by omega, rfl, Below.refl _ _⟩
  case round =>
    obtain ⟨m, rfl, hm, ha, hb⟩ := hrel
    by_cases hlt : m < rs.length
    · obtain ⟨r, hr⟩ : ∃ r, rs[m]? = some r := ⟨_, List.getElem?_eq_getElem hlt⟩
      have S := H.out.1.below hb
      obtain ⟨g, rfl, h1, h2, d0, d1, d2⟩ := S.ruAt H.out.2.1 hr
      have hrm := List.mem_of_getElem? hr
      obtain ⟨i, e, lb, v, q1, q2, q3, q4, q5, q6⟩ := S.at (H.out.2.2.1.known r hrm).1
      rw [q5] at d1
      have hk := H.out.2.2.1.kind r hrm
      have hpr : p r = (decide (ebOf (nms es) a.eb r.right = nb) && Dsr.hinders r.kind e) := by
        rw [HP.out]
        show ((r.right == n) && Dsr.blocksR es r) = _
        have x1 : (r.right == n) = decide (ebOf (nms es) a.eb r.right = nb) := by
          rw [← HN.out]
          have hi := S.inj (H.out.2.2.1.known r hrm).2 H.out.2.2.2
          by_cases hx : r.right = n
          · simp [hx]
          · have h1 : (r.right == n) = false := by simpa using hx
            have h2 : ¬ ebOf (nms es) a.eb r.right = ebOf (nms es) a.eb n := fun e => hx (hi.1 e)
            rw [h1]
            simp [h2]
        rw [x1]
        unfold Dsr.blocksR
        rw [find_idx H.out.2.2.1.nodup q1 q2]
      have hzr := hb.size
      obtain ⟨_, er, rb', vr', _, _, _, _, s5, s6⟩ := S.at (H.out.2.2.1.known r hrm).2
      obtain ⟨_, en, nb', vn', _, _, _, _, t5, t6⟩ := S.at H.out.2.2.2
      rw [← s5] at s6
      rw [← t5, HN.out] at t6
      have HH : Hid (rs[m]? = some r ∧ (rs.take m).any p = false ∧ Below w.heap.size w wr ∧ wr.heap[lb]? = some (evB e v) ∧ p r = (decide (ebOf (nms es) a.eb r.right = nb) && Dsr.hinders r.kind e) ∧ wr.heap[ebOf (nms es) a.eb r.right]? = some (evB er vr') ∧ wr.heap[nb]? = some (evB en vn')) := ⟨hr, ha, hb, q6, hpr, s6, t6⟩
      clear s5 s6 t5 t6
      clear hb ha hr S q1 q2 q3 q4 q5 q6 hrm hpr
      generalize ebOf (nms es) a.eb r.right = rb at *
      rcases hpp : p r with _ | _
      · have HPP : Hid (p r = false) := hpp
        clear hpp
        go_wp2_with fail
        refine (isBlocked1_any hk (Nat.lt_of_lt_of_le hB hzr) ((HH.out.2.2.1.cell (p := ⟨Bx, 0, none⟩) hB).trans hc) HH.out.2.2.2.1 HH.out.2.2.2.2.2.1 HH.out.2.2.2.2.2.2).mono ?_
        rintro x w1 ⟨rfl, hb1⟩
        rw [← HH.out.2.2.2.2.1, HPP.out]
        have HB : Hid (Below w.heap.size w w1) := HH.out.2.2.1.trans (hb1.mono hzr)
        clear hb1
        go_wp2_with fail
        go_roundg (rs.length - (m + 1))
        case measure => omega
        case rel => exact ⟨m + 1, by go_num, by omega, by rw [any_snoc _ _ _ _ HH.out.1, HH.out.2.1, HPP.out]; rfl, HB.out⟩
      · have HPP : Hid (p r = true) := hpp
        clear hpp
        go_wp2_with fail
        refine (isBlocked1_any hk (Nat.lt_of_lt_of_le hB hzr) ((HH.out.2.2.1.cell (p := ⟨Bx, 0, none⟩) hB).trans hc) HH.out.2.2.2.1 HH.out.2.2.2.2.2.1 HH.out.2.2.2.2.2.2).mono ?_
        rintro x w1 ⟨rfl, hb1⟩
        rw [← HH.out.2.2.2.2.1, HPP.out]
        have HB : Hid (Below w.heap.size w w1) := HH.out.2.2.1.trans (hb1.mono hzr)
        clear hb1
        go_wp2_with fail
        go_ret
        exact ⟨⟨m, rfl, by rw [any_here _ _ _ _ HH.out.1 HPP.out]; simp⟩, HB.out⟩
    · have HH : Hid ((rs.take m).any p = false ∧ Below w.heap.size w wr) := ⟨ha, hb⟩
      clear ha hb
      go_wp2_with fail
      go_ret
      exact ⟨⟨-1, rfl, by have e := HH.out.1; rw [List.take_of_length_le (by omega)] at e; rw [e]; rfl⟩, HH.out.2⟩
set_option maxRecDepth 100000 in
set_option maxHeartbeats 1600000 in
theorem cfRule_any (h : StAt N w es rs a) (hg : GOk es rs) {n : List UInt8} (hn : n ∈ nms es) {Bx : Nat} (hB : Bx < w.heap.size) (hc : w.cell? ⟨Bx, 0, none⟩ = some (ptr (ebOf (nms es) a.eb n))) :
    Calls Tryz.prog 132 #[a.vr, .func (.func 133) #[] #[ptr Bx]] w fun x w' => x = .returned (.bool (Dsr.blockedP es rs n)) ∧ Below w.heap.size w w' := by
  obtain ⟨ae, ce, ar, cr, hve, hvr⟩ := h.shapes
  have L := ifRule_any h hg hn hB hc
  rw [hvr] at L ⊢
  have HL : Hid (Calls Tryz.prog 172 #[.slice ar rs.length cr, .func (.func 133) #[] #[ptr Bx]] w fun x w' => (∃ i : Int, x = .returned (.int .i64 i) ∧ decide (0 ≤ i) = Dsr.blockedP es rs n) ∧ Below w.heap.size w w') := L
  clear L h hg hn hc hB hve hvr
  go_enter Tryz.func132, Tryz.ntmps132
  go_wp2_with fail
  refine HL.out.mono ?_
  rintro e w1 ⟨⟨i, rfl, hi⟩, hb⟩
  have HB : Hid (Below w.heap.size w w1 ∧ decide (0 ≤ i) = Dsr.blockedP es rs n) := ⟨hb, hi⟩
  clear hb hi
  go_wp2_with fail
  go_ret
  exact ⟨ret_bool (by rw [← HB.out.2]), HB.out.1⟩
set_option maxRecDepth 100000 in
set_option maxHeartbeats 1600000 in
theorem isBlocked_any (h : StAt N w es rs a) (hg : GOk es rs) {n : List UInt8} (hn : n ∈ nms es) :
    Calls Tryz.prog 87 #[ptr a.sb, ptr (ebOf (nms es) a.eb n)] w fun x w' => x = .returned (.bool (Dsr.blockedP es rs n)) ∧ Below w.heap.size w w' := by
  obtain ⟨ae, ce, ar, cr, hve, hvr⟩ := h.shapes
  have hblk := h.blk
  have hsb := h.sbLt.2
  have L := cfRule_any (w := w.alloc (.cells #[ptr (ebOf (nms es) a.eb n)] 175)) (h.alloc _) hg hn (Bx := w.heap.size) (by simp) (by simp)
  rw [hvr] at L
  rw [hve, hvr] at hblk
  obtain ⟨c0, c1, fz⟩ := cells2 hblk
  have HL : Hid (Calls Tryz.prog 132 #[.slice ar rs.length cr, .func (.func 133) #[] #[ptr w.heap.size]] (w.alloc (.cells #[ptr (ebOf (nms es) a.eb n)] 175)) fun x w' => x = .returned (.bool (Dsr.blockedP es rs n)) ∧ Below (w.alloc (.cells #[ptr (ebOf (nms es) a.eb n)] 175)).heap.size (w.alloc (.cells #[ptr (ebOf (nms es) a.eb n)] 175)) w') := L
  clear L h hg hn hve hvr hblk
  generalize ebOf (nms es) a.eb n = nb at *
  go_enter Tryz.func87, Tryz.ntmps87
  go_wp2_with fail
  refine HL.out.mono ?_
  rintro e w1 ⟨rfl, hb⟩
  have HB : Hid (Below w.heap.size w w1) := below_alloc hb
  clear hb
  go_wp2_with fail
  go_ret
  exact ⟨rfl, HB.out⟩
end
end Go.Proofs.YtjmcokcdaddpcaaGreatDoor
set_option linter.unusedVariables false
set_option linter.unusedSimpArgs false
namespace Go.Proofs.YtjmcokcdaddpcaaGreatDoor
open Go.RowKit
theorem nms_modN (f : Dsr.Ev → Dsr.Ev) (hf : ∀ e, (f e).name = e.name) (n : List UInt8) (es : List Dsr.Ev) : nms (Dsr.modN f n es) = nms es := by
  unfold nms Dsr.modN
  rw [List.map_map]
  refine List.map_congr_left fun e _ => ?_
  simp only [Function.comp]
  split
  · exact hf e
  · rfl
theorem nms_followS (a : List UInt8) (k : Nat) (es : List Dsr.Ev) (r : Dsr.Rl) : nms (Dsr.followS a k es r) = nms es := by
  unfold Dsr.followS
  split
  · exact nms_modN (Dsr.eff k) (fun _ => rfl) _ _
  · rfl
theorem nms_follow (a : List UInt8) (k : Nat) : ∀ (rs : List Dsr.Rl) (es : List Dsr.Ev), nms (rs.foldl (Dsr.followS a k) es) = nms es
  | [], es => rfl
  | r :: rs, es => (nms_follow a k rs _).trans (nms_followS a k es r)
theorem roles_modN (f : Dsr.Ev → Dsr.Ev) (hf : ∀ e, (f e).roles = e.roles) (n : List UInt8) (es : List Dsr.Ev) : (Dsr.modN f n es).map (·.roles) = es.map (·.roles) := by
  unfold Dsr.modN
  rw [List.map_map]
  refine List.map_congr_left fun e _ => ?_
  simp only [Function.comp]
  split
  · exact hf e
  · rfl
/-- The graph is let in, whatever the marks. -/
theorem GOk.of {es es' : List Dsr.Ev} {rs : List Dsr.Rl} (h : GOk es rs) (hn : nms es' = nms es) (hr : es'.map (·.roles) = es.map (·.roles)) : GOk es' rs := by
  refine ⟨by rw [hn]; exact h.nodup, fun r hr => by rw [hn]; exact h.known r hr, h.kind, ?_, h.rsl, ?_⟩
  · have := congrArg List.length hn
    simp [nms] at this
    have := h.esl; omega
  · intro e he
    have : e.roles ∈ es'.map (·.roles) := List.mem_map.2 ⟨e, he, rfl⟩
    rw [hr] at this
    obtain ⟨e0, h0, h1⟩ := List.mem_map.1 this
    rw [← h1]
    exact h.rol e0 h0
theorem GOk.modN {es : List Dsr.Ev} {rs : List Dsr.Rl} (h : GOk es rs) (f : Dsr.Ev → Dsr.Ev) (h1 : ∀ e, (f e).name = e.name) (h2 : ∀ e, (f e).roles = e.roles) (n : List UInt8) : GOk (Dsr.modN f n es) rs := h.of (nms_modN f h1 n es) (roles_modN f h2 n es)
theorem GOk.followS {es : List Dsr.Ev} {rs : List Dsr.Rl} (h : GOk es rs) (a : List UInt8) (k : Nat) (r : Dsr.Rl) : GOk (Dsr.followS a k es r) rs := by
  unfold Dsr.followS
  split
  · exact h.modN (Dsr.eff k) (fun _ => rfl) (fun _ => rfl) _
  · exact h
theorem GOk.fold {rs : List Dsr.Rl} (a : List UInt8) (k : Nat) : ∀ (qs : List Dsr.Rl) (es : List Dsr.Ev), GOk es rs → GOk (qs.foldl (Dsr.followS a k) es) rs
  | [], es, h => h
  | r :: qs, es, h => GOk.fold a k qs _ (h.followS a k r)
theorem foldl_snoc {α β : Type} (f : β → α → β) (l : List α) (n : Nat) (x : α) (b : β) (h : l[n]? = some x) : (l.take (n + 1)).foldl f b = f ((l.take n).foldl f b) x := by
  rw [List.take_add_one, h, List.foldl_append]; rfl
section
variable {N : Nat} {w : World} {es : List Dsr.Ev} {rs : List Dsr.Rl} {a : SA}
/-- An event has been written, by its name. -/
theorem StAt.setN {w' : World} (h : StAt N w es rs a) (hg : GOk es rs) {n : List UInt8} (f : Dsr.Ev → Dsr.Ev) (h1 : ∀ e, (f e).name = e.name) (h2 : ∀ e, (f e).roles = e.roles) {i : Nat} {e : Dsr.Ev} {b : Nat} {v : Value} (he : es[i]? = some e) (hn : e.name = n) (hb : a.eb[i]? = some b) (hv : a.rv[i]? = some v)
    (hw : w'.heap[b]? = some (evB (f e) v)) (hk : Kp (· = b) w w') : StAt N w' (Dsr.modN f n es) rs a := by
  rw [← hn, ← set_modN f hg.nodup he]
  exact h.setEv he hb hv (h1 e) (h2 e) hk.size hw (fun k hk1 hk2 => hk.block k hk1 hk2)
set_option maxRecDepth 100000 in
set_option maxHeartbeats 1600000 in
theorem follow_any (h : StAt N w es rs a) (hg : GOk es rs) {n : List UInt8} (hn : n ∈ nms es) {k : Nat} (h2 : 2 ≤ k) (hk : k < 5) :
    Calls Tryz.prog 92 #[ptr a.sb, ptr (ebOf (nms es) a.eb n), .int .u8 k] w fun x w' => x = .returned (.tuple #[]) ∧ StAt N w' (Dsr.follow rs n k es) rs a ∧ Kp (· ∈ a.eb) w w' := by
  obtain ⟨ae, ce, ar, cr, hve, hvr⟩ := h.shapes
  have hblk := h.blk
  rw [hve, hvr] at hblk
  obtain ⟨c0, c1, fz⟩ := cells2 hblk
  have H : Hid (StAt N w es rs a ∧ a.vr = .slice ar rs.length cr ∧ GOk es rs ∧ n ∈ nms es) := ⟨h, hvr, hg, hn⟩
  have hz : (rs.length : Int) ≤ 1000 := by have := hg.rsl; omega
  have hsb := h.sbLt.2
  clear h hg hve hvr hblk hn
  generalize hnb : ebOf (nms es) a.eb n = nb
  have HN : Hid (ebOf (nms es) a.eb n = nb) := hnb
  clear hnb
  go_enter Tryz.func92, Tryz.ntmps92
  go_wp2_with fail
  go_loopg [13] rs.length (fun g i wr => ∃ m : Nat, i = .int .i64 m ∧ m + g = rs.length ∧ StAt N wr ((rs.take m).foldl (Dsr.followS n k) es) rs a ∧ Kp (· ∈ a.eb) w wr)
  case atStart => exact ⟨0, rfl, by omega, H.out.1, Kp.refl _ _⟩
  case round =>
    obtain ⟨m, rfl, hm, hS, hK⟩ := hrel
    by_cases hlt : m < rs.length
    · obtain ⟨r, hr⟩ : ∃ r, rs[m]? = some r := ⟨_, List.getElem?_eq_getElem hlt⟩
      obtain ⟨es', hes'⟩ : ∃ es', es' = (rs.take m).foldl (Dsr.followS n k) es := ⟨_, rfl⟩
      have hnm : nms es' = nms es := by rw [hes']; exact nms_follow n k _ es
      have hg' : GOk es' rs := by rw [hes']; exact GOk.fold n k _ es H.out.2.2.1
      rw [← hes'] at hS
      obtain ⟨g, rfl, h1, h2', d0, d1, d2⟩ := hS.ruAt H.out.2.1 hr
      have hrm := List.mem_of_getElem? hr
      have hkn := hg'.known r hrm
      obtain ⟨i, e, rb, v, q1, q2, q3, q4, q5, q6⟩ := hS.at hkn.2
      rw [q5] at d2
      have hleft : ebOf (nms es') a.eb r.left = nb ↔ r.left = n := by
        rw [← HN.out, ← hnm]
        exact hS.inj hkn.1 (by rw [hnm]; exact H.out.2.2.2)
      have HH : Hid (rs[m]? = some r ∧ es' = (rs.take m).foldl (Dsr.followS n k) es ∧ GOk es' rs ∧ StAt N wr es' rs a ∧ Kp (· ∈ a.eb) w wr ∧ (es'[i]? = some e ∧ e.name = r.right ∧ a.eb[i]? = some rb ∧ a.rv[i]? = some v ∧ wr.heap[rb]? = some (evB e v)) ∧ (ebOf (nms es') a.eb r.left = nb ↔ r.left = n)) := ⟨hr, hes', hg', hS, hK, ⟨q1, q2, q3, q4, q6⟩, hleft⟩
      have hzr := hK.size
      obtain ⟨_, el, lb', vl', _, _, _, _, s5, s6⟩ := hS.at hkn.1
      obtain ⟨_, en, nb', vn', _, _, _, _, t5, t6⟩ := hS.at (n := n) (by rw [hnm]; exact H.out.2.2.2)
      rw [← s5] at s6
      rw [← t5, hnm, HN.out] at t6
      have hq0 : (binOp .eql 175 (ptr (ebOf (nms es') a.eb r.left)) (ptr nb)).run Tryz.prog wr = .ok (.bool (decide (ebOf (nms es') a.eb r.left = nb))) wr := eqlEv s6 t6
      have hq1 : ∀ o, (binOp .eql 175 (ptr (ebOf (nms es') a.eb r.left)) (ptr nb)).run Tryz.prog (wr.alloc o) = .ok (.bool (decide (ebOf (nms es') a.eb r.left = nb))) (wr.alloc o) := fun o => eqlEv (by rw [(below_alloc1S o).block _ (Array.getElem?_eq_some_iff.1 s6).1]; exact s6) (by rw [(below_alloc1S o).block _ (Array.getElem?_eq_some_iff.1 t6).1]; exact t6)
      have HX : Hid (∀ o, (wr.alloc o).heap[rb]? = some (evB e v)) := fun o => by rw [(below_alloc1S o).block _ (Array.getElem?_eq_some_iff.1 q6).1]; exact q6
      clear s5 s6 t5 t6
      clear hr hes' hg' hS hK q1 q2 q3 q4 q5 q6 hleft hnm hkn hrm
      generalize hlb : ebOf (nms es') a.eb r.left = lb at *
      by_cases hl : lb = nb
      · subst hl
        simp only [decide_true] at hq0 hq1
        by_cases hkk : r.kind = k
        · have HL : Hid (r.left = n ∧ r.kind = k) := ⟨HH.out.2.2.2.2.2.2.1 rfl, hkk⟩
          rw [hkk] at d0
          clear hkk
          go_wp2_with fail
          refine (takeEffect_any h2 hk _ (HX.out _)).mono ?_
          rintro x w1 ⟨rfl, hw1, hk1⟩
          have S1 := (HH.out.2.2.2.1.alloc _).setN HH.out.2.2.1 (Dsr.eff k) (fun _ => rfl) (fun _ => rfl) HH.out.2.2.2.2.2.1.1 HH.out.2.2.2.2.2.1.2.1 HH.out.2.2.2.2.2.1.2.2.1 HH.out.2.2.2.2.2.1.2.2.2.1 hw1 hk1
          have K1 : Kp (· ∈ a.eb) w w1 := (HH.out.2.2.2.2.1.alloc _).trans hk1 (fun q hq => .inl (by subst hq; exact List.mem_of_getElem? HH.out.2.2.2.2.2.1.2.2.1))
          have e1 : (rs.take (m + 1)).foldl (Dsr.followS n k) es = Dsr.modN (Dsr.eff k) r.right es' := by
            rw [foldl_snoc _ _ _ _ _ HH.out.1, ← HH.out.2.1]
            unfold Dsr.followS
            rw [if_pos (by simp [HL.out.1, HL.out.2])]
          have HB : Hid (StAt N w1 ((rs.take (m + 1)).foldl (Dsr.followS n k) es) rs a ∧ Kp (· ∈ a.eb) w w1) := ⟨by rw [e1]; exact S1, K1⟩
          clear hw1 hk1 S1 K1 e1
          go_wp2_with fail
          go_roundg (rs.length - (m + 1))
          case measure => omega
          case rel => exact ⟨m + 1, by go_num, by omega, HB.out.1, HB.out.2⟩
        · have hkb : ((r.kind : Int) == (k : Int)) = false := by simp; omega
          have HL : Hid (¬ r.kind = k) := hkk
          clear hkk
          go_wp2_with fail
          go_roundg (rs.length - (m + 1))
          case measure => omega
          case rel => exact ⟨m + 1, by go_num, by omega, by
            rw [foldl_snoc _ _ _ _ _ HH.out.1, ← HH.out.2.1]
            unfold Dsr.followS
            rw [if_neg (by simp [HL.out])]
            exact HH.out.2.2.2.1.alloc _, HH.out.2.2.2.2.1.alloc _⟩
      · simp only [hl, decide_false] at hq0 hq1
        have HL : Hid (¬ r.left = n) := fun e => hl (HH.out.2.2.2.2.2.2.2 e)
        clear hl
        go_wp2_with fail
        go_roundg (rs.length - (m + 1))
        case measure => omega
        case rel => exact ⟨m + 1, by go_num, by omega, by
          rw [foldl_snoc _ _ _ _ _ HH.out.1, ← HH.out.2.1]
          unfold Dsr.followS
          rw [if_neg (by simp [HL.out])]
          exact HH.out.2.2.2.1.alloc _, HH.out.2.2.2.2.1.alloc _⟩
    · have HH : Hid (StAt N wr (Dsr.follow rs n k es) rs a ∧ Kp (· ∈ a.eb) w wr) := ⟨by rw [List.take_of_length_le (by omega)] at hS; exact hS, hK⟩
      clear hS hK
      go_wp2_with fail
      go_end0
      exact ⟨rfl, HH.out⟩
end
end Go.Proofs.YtjmcokcdaddpcaaGreatDoor
