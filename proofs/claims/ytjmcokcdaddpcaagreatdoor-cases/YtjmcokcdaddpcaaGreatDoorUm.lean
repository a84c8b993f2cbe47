import Derived.Test.YtjmcokcdaddpcaaGreatDoorUc
import Derived.Test.YtjmcokcdaddpcaaGreatDoorRdD
import Derived.Deep.LoopGhost
set_option linter.unusedVariables false
set_option linter.unusedSimpArgs false
namespace Go.Proofs.YtjmcokcdaddpcaaGreatDoor
open Go.RowKit
theorem kcell {b : Nat} {W w1 : World} (hk : Kp (· = b) W w1) : (∀ b' o, b' < W.heap.size → ¬ b' = b → w1.cell? ⟨b', o, none⟩ = W.cell? ⟨b', o, none⟩) ∧ (∀ b' o, b' < W.heap.size → ¬ b' = b → w1.frozen? ⟨b', o, none⟩ = W.frozen? ⟨b', o, none⟩) :=
  ⟨fun b' o h hn => hk.cell (a := ⟨b', o, none⟩) h hn, fun b' o h hn => hk.frozen (a := ⟨b', o, none⟩) h hn⟩
theorem signs_set {w : World} (h : SignsIn w) {g o : Nat} {v : Value} (hg : 0 < g) : SignsIn (w.setCell ⟨g, o, none⟩ v) :=
  h.kp ((Kp.refl (fun k => k = g) w).setCell (.inl rfl) v) (by omega)
theorem RdAt.mineLt {B b : Nat} {w : World} {t : ByteArray} {r : Dsr.Rd} {s : St} (h : RdAt B b w t r s) : ∀ k, Mine b s k → k < w.heap.size := fun k hk => (h.mine hk).2
/-- A store into a block that was made since. -/
theorem rd_set {B b : Nat} {w w1 : World} {t : ByteArray} {r1 : Dsr.Rd} {s : St} {S : Nat → Prop} {g : Nat} (h : RdAt B b w1 t r1 s) (hn : g ≠ b) (hk : Kp S w w1) (hr : ∀ v ∈ s.rv, ∀ k, v.ownBlock = some k → k < w.heap.size) (hm : ∀ k, Mine b s k → k < w.heap.size) (hg : w.heap.size ≤ g) (o : Nat) (v : Value) :
    RdAt B b (w1.setCell ⟨g, o, none⟩ v) t r1 s :=
  h.same fun k hk1 _ hx => heap_setCell_other _ _ _ _ (by
    show k ≠ g
    rcases hx with hx | ⟨u, hu, ho⟩
    · have := hm k hx; omega
    · have := hr u hu k ho; omega)
/-- The reader's blocks lie below N. -/
theorem rd_new {B b N : Nat} {w1 w2 : World} {t : ByteArray} {r1 : Dsr.Rd} {s : St} (h : RdAt B b w1 t r1 s) (hr : ∀ v ∈ s.rv, ∀ k, v.ownBlock = some k → k < N) (hm : ∀ k, Mine b s k → k < N) (hk : Kp (fun k => N ≤ k) w1 w2) : RdAt B b w2 t r1 s :=
  h.same fun k hk1 _ hx => hk.block k hk1 (fun hN => by
    have hN' : N ≤ k := hN
    rcases hx with hx | ⟨u, hu, ho⟩
    · have := hm k hx; omega
    · have := hr u hu k ho; omega)
theorem signs_new {N : Nat} {w1 w2 : World} (h : SignsIn w1) (hN : 0 < N) (hk : Kp (fun k => N ≤ k) w1 w2) : SignsIn w2 := h.kp hk (by omega)
theorem cells3 {w : World} {b : Nat} {c0 c1 c2 : Value} {T : TypeId} (h : w.heap[b]? = some (.cells #[c0, c1, c2] T (0, 0))) :
    w.cell? ⟨b, 0, none⟩ = some c0 ∧ w.cell? ⟨b, 1, none⟩ = some c1 ∧ w.cell? ⟨b, 2, none⟩ = some c2 ∧ ∀ o, w.frozen? ⟨b, o, none⟩ = false := by
  refine ⟨?_, ?_, ?_, ?_⟩
  · simp [World.cell?, h]
  · simp [World.cell?, h]
  · simp [World.cell?, h]
  · intro o; simp [World.frozen?, h]
theorem alloc_second (w : World) (o o' : Obj) : ((w.alloc o).alloc o').heap[w.heap.size + 1]? = some o' := by
  have h := heap_alloc_new (w.alloc o) o'
  have e : (w.alloc o).heap.size = w.heap.size + 1 := by simp
  rw [e] at h; exact h
theorem set_ne {w : World} {b g o : Nat} {v : Value} (h : b ≠ g) : (w.setCell ⟨g, o, none⟩ v).heap[b]? = w.heap[b]? := heap_setCell_other _ _ _ _ h
set_option maxRecDepth 100000 in
set_option maxHeartbeats 1600000 in
theorem firstMark_any {B b : Nat} {w : World} {t : ByteArray} {r : Dsr.Rd} {s : St} (h : RdAt B b w t r s) (hs : t.size ≤ 400) (ho : r.ok t.data.toList) (hS : SignsIn w) :
    Calls Tryz.prog 149 #[ptr b] w fun x w' => x = .returned (.agg #[.bool (Dsr.markDone t.data.toList r), .bool (Dsr.markIn r), .bool (Dsr.markDue t.data.toList r)]) ∧ RdAt B b w' t (Dsr.markRd t.data.toList r) s ∧ Kp (· = b) w w' := by
  have hlt := h.lt
  have hr := h.rvLt
  have hm := h.mineLt
  have HM : Hid ((∀ v ∈ s.rv, ∀ k, v.ownBlock = some k → k < w.heap.size) ∧ (∀ k, Mine b s k → k < w.heap.size)) := ⟨hr, hm⟩
  have H : Hid (RdAt B b w t r s) := h
  have HS : Hid (SignsIn w) := hS
  have hw0 : 0 < w.heap.size := hS.1
  have hb0 : ¬ (0 = b) := by have := h.pos; have := h.low; omega
  have n0 : ¬ w.heap.size = b := by omega
  have n1 : ¬ w.heap.size + 1 = b := by omega
  clear h hS hr hm
  go_enter Tryz.func149, Tryz.ntmps149
  go_wp2_with fail
  refine (takeIf_any 4 (H.out.below (((Below.refl _ _).alloc (Nat.le_refl _) _).alloc (by simp) _)) hs ho (HS.out.below (((Below.refl _ _).alloc (Nat.le_refl _) _).alloc (by simp) _))).mono ?_
  rintro e w1 ⟨rfl, R1, K1⟩
  have y1 : w.heap.size + 1 < w1.heap.size := by have := K1.size; simp at this; omega
  have p1 : w1.heap[w.heap.size]? = some (.cells #[.bool false, .bool false, .bool false] 48 (0, 0)) := by rw [K1.block _ (by simp; omega) n0]; exact (Below.heap_alloc _ _ _ (by simp)).trans (heap_alloc_new _ _)
  have q1 : w1.heap[w.heap.size + 1]? = some (.cells #[.bool false, .bool false, .bool false] 48 (0, 0)) := by rw [K1.block _ (by simp) n1]; exact alloc_second _ _ _
  obtain ⟨a0, a1, a2, fa⟩ := cells3 q1
  have H1 : Hid (RdAt B b w1 t (Dsr.takeIf t.data.toList r 4) s ∧ Kp (· = b) w w1 ∧ SignsIn w1) :=
    ⟨R1, (((Kp.refl _ w).alloc _).alloc _).trans K1 (fun _ h => .inl h), (HS.out.below (((Below.refl _ _).alloc (Nat.le_refl _) _).alloc (by simp) _)).kp K1 hb0⟩
  have P1 : Hid (w1.heap[w.heap.size]? = some (.cells #[.bool false, .bool false, .bool false] 48 (0, 0)) ∧ w1.heap[w.heap.size + 1]? = some (.cells #[.bool false, .bool false, .bool false] 48 (0, 0))) := ⟨p1, q1⟩
  clear R1 K1 p1 q1
  go_wp2_with fail
  refine (takeIf_any 5 (rd_new H1.out.1 HM.out.1 HM.out.2 ((Kp.refl _ _).setCell (.inl (by simp)) _)) hs (Dsr.takeIf_ok ho 4) (signs_new H1.out.2.2 hw0 ((Kp.refl _ _).setCell (.inl (by simp)) _))).mono ?_
  rintro e w2 ⟨rfl, R2, K2⟩
  have y2 : w.heap.size + 1 < w2.heap.size := by have := K2.size; simp at this; omega
  have p2 := (K2.block w.heap.size (by simp; omega) n0).trans ((set_ne (by omega)).trans P1.out.1)
  have q2 := (K2.block (w.heap.size + 1) (by simp; omega) n1).trans (blk_set P1.out.2 _ _)
  have H2 : Hid (RdAt B b w2 t (Dsr.takeIf t.data.toList (Dsr.takeIf t.data.toList r 4) 5) s ∧ Kp (· = b) w w2 ∧ SignsIn w2) :=
    ⟨R2, (H1.out.2.1.setCell (.inr (by simp)) _).trans K2 (fun _ h => .inl h), (signs_new H1.out.2.2 hw0 ((Kp.refl _ _).setCell (.inl (by simp)) _)).kp K2 hb0⟩
  clear R2 K2 a0 a1 a2 fa
  simp only [List.setIfInBounds_toArray, List.set_cons_succ, List.set_cons_zero] at q2
  obtain ⟨a0, a1, a2, fa⟩ := cells3 q2
  have P2 : Hid (_ ∧ _) := ⟨p2, q2⟩
  clear p2 q2
  go_wp2_with fail
  refine (takeIf_any 6 (rd_new H2.out.1 HM.out.1 HM.out.2 ((Kp.refl _ _).setCell (.inl (by simp)) _)) hs (Dsr.takeIf_ok (Dsr.takeIf_ok ho 4) 5) (signs_new H2.out.2.2 hw0 ((Kp.refl _ _).setCell (.inl (by simp)) _))).mono ?_
  rintro e w3 ⟨rfl, R3, K3⟩
  have y3 : w.heap.size + 1 < w3.heap.size := by have := K3.size; simp at this; omega
  have p3 := (K3.block w.heap.size (by simp; omega) n0).trans ((set_ne (by omega)).trans P2.out.1)
  have q3 := (K3.block (w.heap.size + 1) (by simp; omega) n1).trans (blk_set P2.out.2 _ _)
  have H3 : Hid (RdAt B b w3 t (Dsr.markRd t.data.toList r) s ∧ Kp (· = b) w w3) :=
    ⟨R3, (H2.out.2.1.setCell (.inr (by simp)) _).trans K3 (fun _ h => .inl h)⟩
  clear R3 K3 a0 a1 a2 fa
  simp only [List.setIfInBounds_toArray, List.set_cons_succ, List.set_cons_zero] at q3
  obtain ⟨a0, a1, a2, fa⟩ := cells3 q3
  obtain ⟨b0, b1, b2, fb⟩ := cells3 p3
  clear p3 q3
  go_wp2_with fail
  refine bodyPost_ret (v := .agg #[.bool (Dsr.markDone t.data.toList r), .bool (Dsr.markIn r), .bool (Dsr.markDue t.data.toList r)]) ?_ rfl ⟨rfl, ?_, ?_⟩
  · simp [results, Tryz.results149, go_sem, a0, a1, a2, b0, b1, b2, fa, fb, Dsr.markDone, Dsr.markIn, Dsr.markDue]
  · exact rd_new H3.out.1 HM.out.1 HM.out.2 (((((Kp.refl _ _).setCell (.inl (by simp)) _).setCell (.inl (by simp)) _).setCell (.inl (by simp)) _).setCell (.inl (by simp)) _)
  · exact (((H3.out.2.setCell (.inr (by simp)) _).setCell (.inr (by simp)) _).setCell (.inr (by simp)) _).setCell (.inr (by simp)) _
end Go.Proofs.YtjmcokcdaddpcaaGreatDoor
set_option linter.unusedVariables false
set_option linter.unusedSimpArgs false
namespace Go.Proofs.YtjmcokcdaddpcaaGreatDoor
open Go.RowKit
theorem Tryz.infoString : (Tryz.prog.info? 9).map (fun i => (i.zero, i.size, i.bytes)) = some (some (.string ⟨#[]⟩), 1, 16) := by kernel_rfl
theorem name_m {B b : Nat} {w : World} {t : ByteArray} {r : Dsr.Rd} {s : St} (a : Nat) (h : RdAt B b w t r s) (hs : t.size ≤ 400) (ho : r.ok t.data.toList) (hS : SignsIn w) (hu : r.uses.length ≤ 1000) :
    Calls Tryz.prog 147 #[ptr b, .int .u8 a] w fun x w' => x = .returned (strV r.now.text) ∧ ∃ s', MSt B b w t s w' (Dsr.name t.data.toList r a) s' := by
  refine (name_any a h hs ho hS hu).mono ?_
  rintro e w' ⟨rfl, s', h1, h2, h3, h4, h5, h6⟩
  exact ⟨rfl, s', h1, h2, h3, h4, h5, h6⟩
/-- A slice of strings of the call's own. -/
def OwnStrs (B b : Nat) (w : World) (s' : St) (wr : World) (v : Value) (l : List (List UInt8)) : Prop :=
  wr.ownsRow B 9 1 v l.length (l.map strV) ∧ ∀ k, v.ownBlock = some k → w.heap.size ≤ k ∧ ¬ Mine b s' k
/-- The loop over the roles. -/
def RelR (B b : Nat) (w : World) (t : ByteArray) (r : Dsr.Rd) (s : St) (k : Nat) (v : Value) (wr : World) : Prop :=
  ∃ r' l s', MSt B b w t s wr r' s' ∧ OwnStrs B b w s' wr v l ∧ Dsr.rolesLoop t.data.toList k r' l = Dsr.roles t.data.toList r ∧ r'.ok t.data.toList ∧ l.length + k = 6 ∧ (k ≤ 1 → r'.now.kind ≠ 7) ∧ r'.uses.length ≤ r.uses.length + l.length
set_option maxRecDepth 100000 in
set_option maxHeartbeats 1600000 in
theorem roles_any {B b : Nat} {w : World} {t : ByteArray} {r : Dsr.Rd} {s : St} (h : RdAt B b w t r s) (hs : t.size ≤ 400) (ho : r.ok t.data.toList) (hS : SignsIn w) (hu : r.uses.length ≤ 900) :
    Calls Tryz.prog 148 #[ptr b] w fun x w' => ∃ v s', x = .returned v ∧ MSt B b w t s w' (Dsr.roles t.data.toList r).1 s' ∧ OwnStrs B b w s' w' v (Dsr.roles t.data.toList r).2 := by
  have H : Hid (RdAt B b w t r s) := h
  have HS : Hid (SignsIn w) := hS
  have HO : Hid (r.ok t.data.toList) := ho
  have hlt := h.lt
  have hB : B ≤ w.heap.size := by have := h.low; omega
  clear h hS ho
  go_enter Tryz.func148, Tryz.ntmps148
  go_wp2_with fail
  refine (name_m 1 H.out hs HO.out HS.out (by omega)).mono ?_
  rintro e w1 ⟨rfl, s1, M1⟩
  have H1 : Hid (MSt B b w t s w1 (Dsr.name t.data.toList r 1) s1) := M1
  clear M1
  go_wp2_with fail
  go_loopg [3] 5 (fun k v wr => RelR B b w t r s k v wr)
  case atStart =>
    have M1 := H1.out
    have hsz := M1.kp.size
    refine ⟨Dsr.name t.data.toList r 1, [r.now.text], s1, M1.aside ((Kp.refl (fun _ => False) _).alloc _) (fun _ h => h.elim) H.out.rvLt, ⟨?_, ?_⟩, rfl, Dsr.name_ok HO.out 1, rfl, (fun h => by omega), ?_⟩
    · exact World.ownsRow_lit _ _ 1 (by omega) (by decide) rfl
    · intro k hk
      simp [Value.ownBlock] at hk
      subst hk
      exact ⟨by omega, fun hm => by have := M1.rd.mine hm; omega⟩
    · rw [(Dsr.name_lists _ _ _).2.2]; simp
  case round =>
    obtain ⟨r', l, s', M', O', hL, ho', hlk, h0, hu'⟩ := hrel
    have HH : Hid (MSt B b w t s wr r' s' ∧ OwnStrs B b w s' wr u3 l ∧ Dsr.rolesLoop t.data.toList gk r' l = Dsr.roles t.data.toList r ∧ r'.ok t.data.toList) := ⟨M', O', hL, ho'⟩
    obtain ⟨av, cv, rfl⟩ := owned_shape O'.1
    clear M' O' hL ho'
    go_wp2_with fail
    refine (takeIf_any 7 HH.out.1.rd hs HH.out.2.2.2 (HH.out.1.signs H.out HS.out)).mono ?_
    rintro e w1 ⟨rfl, R1, K1⟩
    by_cases hk7 : r'.now.kind = 7
    · have hd : decide (r'.now.kind = 7) = true := by simp [hk7]
      obtain ⟨g, rfl⟩ : ∃ g, gk = g + 1 := ⟨gk - 1, by rcases gk with _ | g; exact absurd hk7 (h0 (by omega)); rfl⟩
      have hg2 : 1 ≤ g := by rcases g with _ | g; exact absurd hk7 (h0 (by omega)); omega
      have e1 : Dsr.takeIf t.data.toList r' 7 = Dsr.step t.data.toList r' := by rw [Dsr.takeIf, if_pos hk7]
      have e2 := HH.out.2.2.1
      rw [Dsr.rolesLoop, if_pos hk7] at e2
      rw [e1] at R1
      have M1 := HH.out.1.trans (MSt.ofB R1 K1)
      obtain ⟨c0, c1, c2, c3, c4, c5, c6, c7, c8, c9, fz⟩ := R1.cells
      have hO1 : OwnStrs B b w s' w1 (.slice av l.length cv) l := ⟨ownsRow_of_block HH.out.2.1.1 fun k hk hv => K1.block k hk (fun e => (HH.out.2.1.2 k hv).2 (.inl e)), HH.out.2.1.2⟩
      have H2 : Hid (MSt B b w t s w1 (Dsr.step t.data.toList r') s' ∧ OwnStrs B b w s' w1 (.slice av l.length cv) l ∧ Dsr.rolesLoop t.data.toList g (Dsr.name t.data.toList (Dsr.rolesSize t.data.toList (Dsr.step t.data.toList r') l.length) 1) (l ++ [(Dsr.rolesSize t.data.toList (Dsr.step t.data.toList r') l.length).now.text]) = Dsr.roles t.data.toList r ∧ (Dsr.step t.data.toList r').ok t.data.toList ∧ (Dsr.step t.data.toList r').uses = r'.uses) := ⟨M1, hO1, e2, Dsr.step_ok HH.out.2.2.2, rfl⟩
      clear R1 K1 e1 e2 M1 hO1 HH hk7
      generalize Dsr.step t.data.toList r' = r2 at *
      go_upto_region 3 with fail
      go_cut [19] from 7 to 26 (fun s19 wc => s19 = .bool (Dsr.bigRoles r2 l.length) ∧ wc = w1)
      case first =>
        by_cases h1 : r2.now.kind = 1
        · have hb1 : ((r2.now.kind : Int) == 1) = true := by simp [h1]
          have H1' : Hid (r2.now.kind = 1) := h1
          clear h1
          go_wp2_with fail
          go_meet
          case rel => exact ⟨congrArg Value.bool (by rw [Dsr.bigRoles, H1'.out]; rw [Bool.eq_iff_iff]; simp; try omega), rfl⟩
        · have hb1 : ((r2.now.kind : Int) == 1) = false := by simp; omega
          go_wp2_with fail
          go_meet
          case rel => exact ⟨congrArg Value.bool (by simp [Dsr.bigRoles, h1]), rfl⟩
      obtain ⟨rfl, rfl⟩ := hcut
      go_upto_if 19 with fail
      go_cut [] from 7 to 26 (fun wc => MSt B b w t s wc (Dsr.rolesSize t.data.toList r2 l.length) s' ∧ OwnStrs B b w s' wc (.slice av l.length cv) l)
      case first =>
        rcases h1 : Dsr.bigRoles r2 l.length with _ | _
        · have HN : Hid (Dsr.rolesSize t.data.toList r2 l.length = r2) := by show _ = _; rw [Dsr.rolesSize, h1]; rfl
          go_wp2_with fail
          go_meet
          case rel => rw [HN.out]; exact ⟨H2.out.1, H2.out.2.1⟩
        · have HN : Hid (Dsr.rolesSize t.data.toList r2 l.length = Dsr.refuse t.data.toList r2 3) := by show _ = _; rw [Dsr.rolesSize, if_pos h1]
          go_wp2_with fail
          refine (refuse_any 3 H2.out.1.rd hs).mono ?_
          rintro e w2 ⟨rfl, q1, q2⟩
          have Q : Hid (MSt B b w t s w2 (Dsr.rolesSize t.data.toList r2 l.length) s' ∧ OwnStrs B b w s' w2 (.slice av l.length cv) l) := by
            rw [HN.out]
            exact ⟨H2.out.1.trans (MSt.ofB q1 q2), ownsRow_of_block H2.out.2.1.1 fun k hk hv => q2.block k hk (fun e => (H2.out.2.1.2 k hv).2 (.inl e)), H2.out.2.1.2⟩
          clear q1 q2
          go_wp2_with fail
          go_meet
          case rel => exact Q.out
      rename World => wv
      obtain ⟨M3, O3⟩ := hcut
      have ok3 : (Dsr.rolesSize t.data.toList r2 l.length).ok t.data.toList := Dsr.rolesSize_ok H2.out.2.2.2.1 _
      have H3 : Hid (MSt B b w t s wv (Dsr.rolesSize t.data.toList r2 l.length) s' ∧ OwnStrs B b w s' wv (.slice av l.length cv) l) := ⟨M3, O3⟩
      have hu3 : (Dsr.rolesSize t.data.toList r2 l.length).uses.length ≤ 1000 := by rw [(Dsr.rolesSize_lists _ _ _).2.2, H2.out.2.2.2.2]; omega
      have HU3 : Hid ((Dsr.rolesSize t.data.toList r2 l.length).uses.length = r'.uses.length) := by show _ = _; rw [(Dsr.rolesSize_lists _ _ _).2.2, H2.out.2.2.2.2]
      have HL : Hid (Dsr.rolesLoop t.data.toList g (Dsr.name t.data.toList (Dsr.rolesSize t.data.toList r2 l.length) 1) (l ++ [(Dsr.rolesSize t.data.toList r2 l.length).now.text]) = Dsr.roles t.data.toList r) := H2.out.2.2.1
      have HE : Hid (l.length = 4 → (Dsr.name t.data.toList (Dsr.rolesSize t.data.toList r2 l.length) 1).now.kind = 10) := fun h => Dsr.roles_end h
      clear M3 O3 H2 c0 c1 c2 c3 c4 c5 c6 c7 c8 c9 fz
      generalize Dsr.rolesSize t.data.toList r2 l.length = r3 at *
      go_wp2_with fail
      refine (name_m 1 H3.out.1.rd hs ok3 (H3.out.1.signs H.out HS.out) hu3).mono ?_
      rintro e w4 ⟨rfl, s4, M4⟩
      have H4 : Hid (MSt B b w t s w4 (Dsr.name t.data.toList r3 1) s4 ∧ OwnStrs B b w s4 w4 (.slice av l.length cv) l) := by
        refine ⟨H3.out.1.trans M4, ownsRow_of_block H3.out.2.1 fun k hk hv => M4.kp.block k hk (H3.out.2.2 k hv).2, fun k hv => ⟨(H3.out.2.2 k hv).1, fun hm => ?_⟩⟩
        rcases M4.mine k hm with h | h
        · exact (H3.out.2.2 k hv).2 h
        · have := (H3.out.2.1.lt k hv).2; omega
      have hw4 : w.heap.size ≤ w4.heap.size := H4.out.1.kp.size
      clear M4
      obtain ⟨i0, hi, hz0, hz1, hz2⟩ := info_parts Tryz.infoString
      have hll : l.length ≤ 5 := by omega
      go_wp2_with (at_builtin; refine wpList_append_lies _ rfl (.tmp 22) (.tmp 25) 22 rfl B 9 i0 _ 1 16 Tryz.underlying22 hi hz0 hz1 hz2 rfl (by decide) (.slice av l.length cv) l.length _ (by simp [Act.eval, Act.put]) (H4.out.2.1.alloc _) ⟨w4.heap.size, 0, none⟩ 1 1 [strV r3.now.text] (by simp [Act.eval, Act.put]) rfl (by exact news_lit) (by intro u hu; simp at hu; subst hu; rfl) (by decide) (by unfold maxLen; omega) (by omega) (by simp; omega) _ rfl ?_; intro g' cap w5 hown hgrow hat hlt5)
      have M5 : MSt B b w t s w5 (Dsr.name t.data.toList r3 1) s4 :=
        H4.out.1.aside (((Kp.refl (fun k => (Value.slice av l.length cv).ownBlock = some k) _).alloc _).grown hgrow (fun k hk => .inl hk)) (fun k hk => H4.out.2.2 k hk) H.out.rvLt
      have O5 : OwnStrs B b w s4 w5 (.slice (some ⟨g', 0, none⟩) (l.length + 1) cap) (l ++ [r3.now.text]) := by
        refine ⟨by simpa using hown, fun k hk => ?_⟩
        simp [Value.ownBlock] at hk
        subst hk
        rcases hat with h | h
        · exact H4.out.2.2 _ h
        · have : g' = w4.heap.size + 1 := by simpa using h
          exact ⟨by omega, fun hm => by have := H4.out.1.rd.mine hm; omega⟩
      have hlen : (l ++ [r3.now.text]).length + g = 6 := by simp; omega
      have hend : g ≤ 1 → (Dsr.name t.data.toList r3 1).now.kind ≠ 7 := fun hg => by rw [HE.out (by omega)]; decide
      have huse : (Dsr.name t.data.toList r3 1).uses.length ≤ r.uses.length + (l ++ [r3.now.text]).length := by rw [(Dsr.name_lists _ _ _).2.2, HU3.out]; simp; omega
      go_roundg g
      case measure => omega
      case rel => exact ⟨_, _, s4, M5, O5, HL.out, Dsr.name_ok ok3 1, hlen, hend, huse⟩
    · have hd : decide (r'.now.kind = 7) = false := by simp [hk7]
      have e1 : Dsr.takeIf t.data.toList r' 7 = r' := by rw [Dsr.takeIf, if_neg hk7]
      rw [e1] at R1
      have e2 : Dsr.roles t.data.toList r = (r', l) := by
        rw [← HH.out.2.2.1]
        rcases gk with _ | g
        · rfl
        · rw [Dsr.rolesLoop, if_neg hk7]
      have M1 := HH.out.1.trans (MSt.ofB R1 K1)
      have hO1 : OwnStrs B b w s' w1 (.slice av l.length cv) l := ⟨ownsRow_of_block HH.out.2.1.1 fun k hk hv => K1.block k hk (fun e => (HH.out.2.1.2 k hv).2 (.inl e)), HH.out.2.1.2⟩
      have H2 : Hid (MSt B b w t s w1 (Dsr.roles t.data.toList r).1 s' ∧ OwnStrs B b w s' w1 (.slice av l.length cv) (Dsr.roles t.data.toList r).2) := by rw [e2]; exact ⟨M1, hO1⟩
      clear R1 K1 e1 e2 M1 hO1 HH hk7
      go_wp2_with fail
      go_ret
      exact ⟨_, s', rfl, H2.out.1, H2.out.2⟩
end Go.Proofs.YtjmcokcdaddpcaaGreatDoor
set_option linter.unusedVariables false
set_option linter.unusedSimpArgs false
namespace Go.Proofs.YtjmcokcdaddpcaaGreatDoor
open Go.RowKit
theorem Tryz.infoEvent : (Tryz.prog.info? 144).map (fun i => (i.zero, i.size, i.bytes)) = some (some (.agg #[.string ⟨#[]⟩, .slice none 0 0, .bool false, .bool false, .bool false]), 5, 48) := by kernel_rfl
theorem Tryz.infoRule : (Tryz.prog.info? 150).map (fun i => (i.zero, i.size, i.bytes)) = some (some (.agg #[.string ⟨#[]⟩, .string ⟨#[]⟩, .int .u8 0]), 3, 40) := by kernel_rfl
theorem MSt.keepL {B b : Nat} {w w' : World} {t : ByteArray} {s s' : St} {r' : Dsr.Rd} (M : MSt B b w t s w' r' s') {L : Nat} (hL : L < w.heap.size) (hn : ¬ Mine b s L) : w'.heap[L]? = w.heap[L]? ∧ ¬ Mine b s' L ∧ L < w'.heap.size :=
  ⟨M.kp.block L hL hn, fun hm => by rcases M.mine L hm with h | h; exact hn h; omega, Nat.lt_of_lt_of_le hL M.kp.size⟩
theorem cells5 {w : World} {b : Nat} {c0 c1 c2 c3 c4 : Value} {T : TypeId} (h : w.heap[b]? = some (.cells #[c0, c1, c2, c3, c4] T (0, 0))) :
    w.cell? ⟨b, 0, none⟩ = some c0 ∧ w.cell? ⟨b, 1, none⟩ = some c1 ∧ w.cell? ⟨b, 2, none⟩ = some c2 ∧ w.cell? ⟨b, 3, none⟩ = some c3 ∧ w.cell? ⟨b, 4, none⟩ = some c4 ∧ ∀ o, w.frozen? ⟨b, o, none⟩ = false := by
  refine ⟨?_, ?_, ?_, ?_, ?_, ?_⟩
  · simp [World.cell?, h]
  · simp [World.cell?, h]
  · simp [World.cell?, h]
  · simp [World.cell?, h]
  · simp [World.cell?, h]
  · intro o; simp [World.frozen?, h]
theorem one_ev (u : Dsr.Ev) (v : Value) (hv : v.oneCell' = true) : ∀ x ∈ evC u v, x.oneCell' = true := by intro x hx; simp [evC] at hx; rcases hx with rfl | rfl | rfl | rfl | rfl <;> first | rfl | exact hv
theorem one_rl (u : Dsr.Rl) : ∀ x ∈ rlC u, x.oneCell' = true := by intro x hx; simp [rlC] at hx; rcases hx with rfl | rfl | rfl <;> rfl
/-- A step of the reader that may add an event, a rule. -/
structure ESt (B b : Nat) (w : World) (t : ByteArray) (s : St) (w' : World) (r' : Dsr.Rd) (s' : St) : Prop where
  rd : RdAt B b w' t r' s'
  kp : Kp (Mine b s) w w'
  mine : ∀ k, Mine b s' k → Mine b s k ∨ w.heap.size ≤ k
theorem after_event {B b : Nat} {wc w1 : World} {t : ByteArray} {r1 : Dsr.Rd} {es : List Dsr.Ev} {s : St} {u : Dsr.Ev} {v : Value} {o : Obj} {g cap : Nat} (HR : RdAt B b wc t r1 s) (hes : r1.events = es)
    (hv : wc.ownsRow B 9 1 v u.roles.length (u.roles.map strV)) (hd : ∀ k, v.ownBlock = some k → ¬ Mine b s k ∧ ∀ y ∈ s.rv, y.ownBlock ≠ some k)
    (hown : w1.ownsRow B 144 5 (.slice (some ⟨g, 0, none⟩) (es.length + 1) cap) (es.length + 1) (evCells es s.rv ++ evC u v)) (hgrow : (wc.alloc o).grownBy w1 s.ve.ownBlock) (hat : s.ve.ownBlock = some g ∨ g = (wc.alloc o).heap.size) :
    Hid (∃ s', ESt B b wc t s (w1.setCell ⟨b, 5, none⟩ (.slice (some ⟨g, 0, none⟩) (es.length + 1) cap)) { r1 with events := es ++ [u] } s') ∧ w1.cell? ⟨b, 5, none⟩ = some s.ve ∧ w1.frozen? ⟨b, 5, none⟩ = false := by
  subst hes
  have HA := HR.below ((Below.refl _ _).alloc (Nat.le_refl _) o)
  have hc := HA.cells
  have ha := HA.apart
  simp only [List.pairwise_cons, List.forall_mem_cons] at ha
  have hne : some b ≠ s.ve.ownBlock := by
    rcases ha.1.1 with h | h
    · cases h
    · exact h
  refine ⟨⟨_, HA.eventAdd u v (hv.alloc o) hd hown hgrow hat, ?_, ?_⟩, ?_, ?_⟩
  · refine (((Kp.refl _ wc).alloc o).grown hgrow ?_).setCell (.inl (.inl rfl)) _
    exact fun k hk => .inl (.inr (.inl hk))
  · intro k hk
    rcases hk with hk | hk | hk | hk
    · exact .inl (.inl hk)
    · simp [Value.ownBlock] at hk
      subst hk
      rcases hat with h | h
      · exact .inl (.inr (.inl h))
      · right; rw [h]; simp
    · exact .inl (.inr (.inr (.inl hk)))
    · exact .inl (.inr (.inr (.inr hk)))
  · rw [hgrow.cell_far ⟨b, 5, none⟩ HA.lt hne]; exact hc.2.2.2.2.2.1
  · rw [hgrow.frozen_far ⟨b, 5, none⟩ HA.lt hne]; exact hc.2.2.2.2.2.2.2.2.2.2 5
theorem after_rule {B b : Nat} {wc w1 : World} {t : ByteArray} {r1 : Dsr.Rd} {es : List Dsr.Rl} {s : St} {u : Dsr.Rl} {o : Obj} {g cap : Nat} (HR : RdAt B b wc t r1 s) (hes : r1.rules = es)
    (hown : w1.ownsRow B 150 3 (.slice (some ⟨g, 0, none⟩) (es.length + 1) cap) (es.length + 1) (es.flatMap rlC ++ rlC u)) (hgrow : (wc.alloc o).grownBy w1 s.vr.ownBlock) (hat : s.vr.ownBlock = some g ∨ g = (wc.alloc o).heap.size) :
    Hid (∃ s', ESt B b wc t s (w1.setCell ⟨b, 6, none⟩ (.slice (some ⟨g, 0, none⟩) (es.length + 1) cap)) { r1 with rules := es ++ [u] } s') ∧ w1.cell? ⟨b, 6, none⟩ = some s.vr ∧ w1.frozen? ⟨b, 6, none⟩ = false := by
  subst hes
  have HA := HR.below ((Below.refl _ _).alloc (Nat.le_refl _) o)
  have hc := HA.cells
  have ha := HA.apart
  simp only [List.pairwise_cons, List.forall_mem_cons] at ha
  have hne : some b ≠ s.vr.ownBlock := by
    rcases ha.1.2.1 with h | h
    · cases h
    · exact h
  refine ⟨⟨_, HA.ruleAdd u hown hgrow hat, ?_, ?_⟩, ?_, ?_⟩
  · refine (((Kp.refl _ wc).alloc o).grown hgrow ?_).setCell (.inl (.inl rfl)) _
    exact fun k hk => .inl (.inr (.inr (.inl hk)))
  · intro k hk
    rcases hk with hk | hk | hk | hk
    · exact .inl (.inl hk)
    · exact .inl (.inr (.inl hk))
    · simp [Value.ownBlock] at hk
      subst hk
      rcases hat with h | h
      · exact .inl (.inr (.inr (.inl h)))
      · right; rw [h]; simp
    · exact .inl (.inr (.inr (.inr hk)))
  · rw [hgrow.cell_far ⟨b, 6, none⟩ HA.lt hne]; exact hc.2.2.2.2.2.2.1
  · rw [hgrow.frozen_far ⟨b, 6, none⟩ HA.lt hne]; exact hc.2.2.2.2.2.2.2.2.2.2 6
theorem MSt.then {B b : Nat} {w w1 w2 : World} {t : ByteArray} {s s1 s2 : St} {r1 r2 : Dsr.Rd} (h : MSt B b w t s w1 r1 s1) (h' : ESt B b w1 t s1 w2 r2 s2) : ESt B b w t s w2 r2 s2 :=
  ⟨h'.rd, h.kp.trans h'.kp h.mine, fun k hk => by
    rcases h'.mine k hk with h1 | h1
    · exact h.mine k h1
    · right; have := h.kp.size; omega⟩
set_option maxRecDepth 100000 in
set_option maxHeartbeats 3200000 in
theorem event_any {B b : Nat} {w : World} {t : ByteArray} {r : Dsr.Rd} {s : St} (h : RdAt B b w t r s) (hs : t.size ≤ 400) (ho : r.ok t.data.toList) (hS : SignsIn w) (hu : r.uses.length ≤ 800) (he10 : r.events.length ≤ 10) :
    Calls Tryz.prog 99 #[ptr b] w fun x w' => x = .returned (.tuple #[]) ∧ ∃ s', ESt B b w t s w' (Dsr.event t.data.toList r) s' := by
  obtain ⟨c0, c1, c2, c3, c4, c5, c6, c7, c8, c9, fz⟩ := h.cells
  obtain ⟨av, cv, hve⟩ := owned_shape h.evs
  have H : Hid (RdAt B b w t r s) := h
  have HS : Hid (SignsIn w) := hS
  have HO : Hid (r.ok t.data.toList) := ho
  have hlt := h.lt
  have hB : B ≤ w.heap.size := by have := h.low; omega
  clear h hS ho c0 c1 c2 c3 c4 c6 c7 c8 c9
  by_cases h10 : r.events.length = 10
  · have hb : ((r.events.length : Int) == 10) = true := by simp [h10]
    have H10 : Hid (r.events.length = 10) := h10
    clear h10
    go_enter Tryz.func99, Tryz.ntmps99
    go_wp2_with fail
    refine (refuse_any 3 H.out hs).mono ?_
    rintro e w1 ⟨rfl, R1, K1⟩
    have H1 : Hid (RdAt B b w1 t (Dsr.refuse t.data.toList r 3) s ∧ Kp (· = b) w w1) := ⟨R1, K1⟩
    clear R1 K1
    go_wp2_with fail
    have M := MSt.ofB H1.out.1 H1.out.2
    refine bodyPost_ret (results_none rfl _ _ _) rfl ?_
    exact ⟨rfl, s, by rw [Dsr.event, if_pos H10.out]; exact ⟨M.rd, M.kp, M.mine⟩⟩
  · have hb : ((r.events.length : Int) == 10) = false := by simp; omega
    have H10 : Hid (¬ r.events.length = 10) := h10
    clear h10
    go_enter Tryz.func99, Tryz.ntmps99
    go_wp2_with fail
    refine (take_any 2 H.out hs HO.out HS.out).mono ?_
    rintro e w1 ⟨rfl, R1, K1⟩
    have H1 : Hid (MSt B b w t s w1 (Dsr.take t.data.toList r 2) s) := MSt.ofB R1 K1
    clear R1 K1
    go_wp2_with fail
    have ok1 := Dsr.take_ok HO.out 2
    have hu1 : (Dsr.take t.data.toList r 2).uses.length ≤ 1000 := by rw [(Dsr.take_lists _ _ _).2.2]; omega
    have hl1 := Dsr.take_lists t.data.toList r 2
    generalize hr1 : Dsr.take t.data.toList r 2 = r1 at *
    have Hr1 : Hid (Dsr.take t.data.toList r 2 = r1) := hr1
    have Hl1 : Hid (r1.events = r.events ∧ r1.rules = r.rules ∧ r1.uses = r.uses) := hl1
    clear hr1 hl1
    refine (name_m 0 H1.out.rd hs ok1 (H1.out.signs H.out HS.out) hu1).mono ?_
    rintro e w2 ⟨rfl, s2, M2⟩
    have H2 : Hid (MSt B b w t s w2 (Dsr.name t.data.toList r1 0) s2) := H1.out.trans M2
    clear M2
    have ok2 := Dsr.name_ok ok1 0
    have hl2 := Dsr.name_lists t.data.toList r1 0
    generalize hr2 : Dsr.name t.data.toList r1 0 = r2 at *
    have Hr2 : Hid (Dsr.name t.data.toList r1 0 = r2) := hr2
    have Hl2 : Hid (r2.events = r1.events ∧ r2.rules = r1.rules ∧ r2.uses.length = r1.uses.length + 1) := hl2
    clear hr2 hl2
    go_wp2_with fail
    have hw2 : w.heap.size ≤ w2.heap.size := H2.out.kp.size
    have nL : ¬ Mine b s2 w2.heap.size := fun hm => by have := H2.out.rd.mine hm; omega
    have A2 : Hid (MSt B b w t s (w2.alloc (.cells #[strV r1.now.text, .slice none 0 0, .bool false, .bool false, .bool false] 144)) r2 s2) := H2.out.aside ((Kp.refl (fun _ => False) _).alloc _) (fun _ h => h.elim) H.out.rvLt
    refine (take_any 3 A2.out.rd hs ok2 (A2.out.signs H.out HS.out)).mono ?_
    rintro e w3 ⟨rfl, R3, K3⟩
    have M3 := MSt.ofB R3 K3
    obtain ⟨L3, nL3, z3⟩ := M3.keepL (L := w2.heap.size) (by simp) nL
    have H3 : Hid (MSt B b w t s w3 (Dsr.take t.data.toList r2 3) s2 ∧ w3.heap[w2.heap.size]? = some (.cells #[strV r1.now.text, .slice none 0 0, .bool false, .bool false, .bool false] 144 (0, 0))) := ⟨A2.out.trans M3, L3.trans (heap_alloc_new _ _)⟩
    clear R3 K3 M3 L3
    have ok3 := Dsr.take_ok ok2 3
    have hl3 := Dsr.take_lists t.data.toList r2 3
    generalize hr3 : Dsr.take t.data.toList r2 3 = r3 at *
    have Hr3 : Hid (Dsr.take t.data.toList r2 3 = r3) := hr3
    have Hl3 : Hid (r3.events = r2.events ∧ r3.rules = r2.rules ∧ r3.uses = r2.uses) := hl3
    clear hr3 hl3
    go_wp2_with fail
    have hu3 : r3.uses.length ≤ 900 := by rw [Hl3.out.2.2, Hl2.out.2.2, Hl1.out.2.2]; omega
    refine (roles_any H3.out.1.rd hs ok3 (H3.out.1.signs H.out HS.out) hu3).mono ?_
    rintro e w4 ⟨v, s4, rfl, M4, O4⟩
    obtain ⟨ar, cr, hv⟩ := owned_shape O4.1
    subst hv
    obtain ⟨L4, nL4, z4⟩ := M4.keepL z3 nL3
    have vL : ∀ k, (Value.slice ar (Dsr.roles t.data.toList r3).2.length cr).ownBlock = some k → k ≠ w2.heap.size := fun k hk e => by have := (O4.2 k hk).1; omega
    have ok4 := Dsr.roles_ok ok3
    have hl4 := Dsr.roles_lists t.data.toList r3
    have q4 := L4.trans H3.out.2
    obtain ⟨a0, a1, a2, a3, a4, fa⟩ := cells5 q4
    have H4 : Hid (MSt B b w t s w4 (Dsr.roles t.data.toList r3).1 s4 ∧ w4.heap[w2.heap.size]? = some (.cells #[strV r1.now.text, .slice none 0 0, .bool false, .bool false, .bool false] 144 (0, 0)) ∧ OwnStrs B b w3 s4 w4 (.slice ar (Dsr.roles t.data.toList r3).2.length cr) (Dsr.roles t.data.toList r3).2) := ⟨H3.out.1.trans M4, q4, O4⟩
    have VL : Hid (∀ k, (Value.slice ar (Dsr.roles t.data.toList r3).2.length cr).ownBlock = some k → k ≠ w2.heap.size) := vL
    clear M4 O4 L4 q4 vL
    generalize hr4 : Dsr.roles t.data.toList r3 = r4 at *
    have Hr4 : Hid (Dsr.roles t.data.toList r3 = r4) := hr4
    have Hl4 : Hid (r4.1.events = r3.events ∧ r4.1.rules = r3.rules ∧ r4.1.uses.length ≤ r3.uses.length + 6) := hl4
    clear hr4 hl4
    go_wp2_with fail
    have hw3 : w.heap.size ≤ w3.heap.size := H3.out.1.kp.size
    have hw0 : 0 < w2.heap.size := by have := HS.out.1; omega
    have A4 : Hid (MSt B b w t s (w4.setCell ⟨w2.heap.size, 1, none⟩ (.slice ar r4.2.length cr)) r4.1 s4) := H4.out.1.aside ((Kp.refl (fun k => k = w2.heap.size) _).setCell (.inl rfl) _) (fun k h => by subst h; exact ⟨hw2, nL4⟩) H.out.rvLt
    refine (firstMark_any A4.out.rd hs ok4 (A4.out.signs H.out HS.out)).mono ?_
    rintro e w5 ⟨rfl, R5, K5⟩
    have M5 := MSt.ofB R5 K5
    obtain ⟨L5, nL5, z5⟩ := M5.keepL (L := w2.heap.size) (by simpa using z4) nL4
    have q5 := L5.trans (blk_set H4.out.2.1 1 (.slice ar r4.2.length cr))
    simp only [List.setIfInBounds_toArray, List.set_cons_succ, List.set_cons_zero] at q5
    clear a0 a1 a2 a3 a4 fa
    obtain ⟨a0, a1, a2, a3, a4, fa⟩ := cells5 q5
    have O5 : OwnStrs B b w3 s4 w5 (.slice ar r4.2.length cr) r4.2 := ⟨ownsRow_of_block H4.out.2.2.1 fun k hk hv => (K5.block k (by simpa using hk) (fun e => (H4.out.2.2.2 k hv).2 (.inl e))).trans (set_ne (VL.out k hv)), H4.out.2.2.2⟩
    have ok5 := Dsr.markRd_ok ok4
    have hl5 := Dsr.markRd_lists t.data.toList r4.1
    have H5 : Hid (MSt B b w t s w5 (Dsr.markRd t.data.toList r4.1) s4 ∧ w5.heap[w2.heap.size]? = some (.cells #[strV r1.now.text, .slice ar r4.2.length cr, .bool false, .bool false, .bool false] 144 (0, 0)) ∧ OwnStrs B b w3 s4 w5 (.slice ar r4.2.length cr) r4.2) := ⟨A4.out.trans M5, q5, O5⟩
    clear R5 K5 M5 L5 q5 O5
    generalize hr5 : Dsr.markRd t.data.toList r4.1 = r5 at *
    have Hr5 : Hid (Dsr.markRd t.data.toList r4.1 = r5) := hr5
    have Hl5 : Hid (r5.events = r4.1.events ∧ r5.rules = r4.1.rules ∧ r5.uses = r4.1.uses) := hl5
    clear hr5 hl5
    generalize hd1 : Dsr.markDone t.data.toList r4.1 = d1 at *
    generalize hd2 : Dsr.markIn r4.1 = d2 at *
    generalize hd3 : Dsr.markDue t.data.toList r4.1 = d3 at *
    have Hd : Hid (Dsr.markDone t.data.toList r4.1 = d1 ∧ Dsr.markIn r4.1 = d2 ∧ Dsr.markDue t.data.toList r4.1 = d3) := ⟨hd1, hd2, hd3⟩
    clear hd1 hd2 hd3
    go_wp2_with fail
    have A5 : Hid (MSt B b w t s (((w5.setCell ⟨w2.heap.size, 2, none⟩ (.bool d1)).setCell ⟨w2.heap.size, 3, none⟩ (.bool d2)).setCell ⟨w2.heap.size, 4, none⟩ (.bool d3)) r5 s4) := H5.out.1.aside ((((Kp.refl (fun k => k = w2.heap.size) _).setCell (.inl rfl) _).setCell (.inl rfl) _).setCell (.inl rfl) _) (fun k h => by subst h; exact ⟨hw2, nL5⟩) H.out.rvLt
    refine (take_any 8 A5.out.rd hs ok5 (A5.out.signs H.out HS.out)).mono ?_
    rintro e w6 ⟨rfl, R6, K6⟩
    have M6 := MSt.ofB R6 K6
    obtain ⟨L6, nL6, z6⟩ := M6.keepL (L := w2.heap.size) (by simpa using z5) nL5
    have q6 := L6.trans (blk_set (blk_set (blk_set H5.out.2.1 2 (.bool d1)) 3 (.bool d2)) 4 (.bool d3))
    simp only [List.setIfInBounds_toArray, List.set_cons_succ, List.set_cons_zero] at q6
    clear a0 a1 a2 a3 a4 fa
    obtain ⟨a0, a1, a2, a3, a4, fa⟩ := cells5 q6
    have O6 : OwnStrs B b w3 s4 w6 (.slice ar r4.2.length cr) r4.2 := ⟨ownsRow_of_block H5.out.2.2.1 fun k hk hv => (K6.block k (by simpa using hk) (fun e => (H5.out.2.2.2 k hv).2 (.inl e))).trans ((set_ne (VL.out k hv)).trans ((set_ne (VL.out k hv)).trans (set_ne (VL.out k hv)))), H5.out.2.2.2⟩
    have hl6 := Dsr.take_lists t.data.toList r5 8
    have H6 : Hid (MSt B b w t s w6 (Dsr.take t.data.toList r5 8) s4 ∧ OwnStrs B b w3 s4 w6 (.slice ar r4.2.length cr) r4.2) := ⟨A5.out.trans M6, O6⟩
    clear R6 K6 M6 L6 q6 O6
    generalize hr6 : Dsr.take t.data.toList r5 8 = r6 at *
    have Hr6 : Hid (Dsr.take t.data.toList r5 8 = r6) := hr6
    have he6 : r6.events = r.events := by rw [hl6.1, Hl5.out.1, Hl4.out.1, Hl3.out.1, Hl2.out.1, Hl1.out.1]
    have HE6 : Hid (r6.events = r.events) := he6
    have w6e := H6.out.1.rd.evs
    rw [he6] at w6e
    have HEv : Hid (w6.ownsRow B 144 5 s4.ve r.events.length (evCells r.events s4.rv)) := w6e
    have hve4 : s4.ve = Value.slice av r.events.length cv := H6.out.1.ve.trans hve
    have hlt6 := H6.out.1.rd.lt
    obtain ⟨c0, c1, c2, c3, c4, c5', c6, c7, c8, c9, fz6⟩ := H6.out.1.rd.cells
    obtain ⟨i0, hi, hz0, hz1, hz2⟩ := info_parts Tryz.infoEvent
    have hw6 : w.heap.size ≤ w6.heap.size := H6.out.1.kp.size
    have HD : Hid (∀ k, (Value.slice ar r4.2.length cr).ownBlock = some k → ¬ Mine b s4 k ∧ ∀ y ∈ s4.rv, y.ownBlock ≠ some k) := fun k hk => ⟨(H6.out.2.2 k hk).2, fun y hy hyk => by rw [H6.out.1.rv] at hy; have := H.out.rvLt y hy k hyk; have := (H6.out.2.2 k hk).1; omega⟩
    clear hr6 hl6 he6 w6e c0 c1 c2 c3 c4 c6 c7 c8 c9 c5 fz
    go_wp2_with fail
    go_region_law (refine step_append_lies _ rfl (.tmp 32) (.tmp 34) 88 rfl B 144 i0 _ 5 48 Tryz.underlying88 hi hz0 hz1 hz2 rfl (by decide) s4.ve r.events.length _ (by simp [Act.eval, Act.put, hve4]) (by first | exact HEv.out.alloc _ | exact (HEv.out.alloc _).drew) ⟨w6.heap.size, 0, none⟩ 1 1 (evC ⟨r1.now.text, r4.2, d1, d2, d3⟩ (.slice ar r4.2.length cr)) (by simp [Act.eval, Act.put]) rfl (by exact news_lit) (one_ev _ _ rfl) (by decide) (by unfold maxLen; omega) (by omega) (by simp; omega) _ rfl ?_; intro g cap w7 hown hgrow hat hlt7; obtain ⟨HM, e5, f5⟩ := after_event H6.out.1.rd HE6.out H6.out.2.1 HD.out hown (grown_drew hgrow) hat)
    all_goals
      go_wp2_with fail
      go_end0
      obtain ⟨s7, E7⟩ := HM.out
      refine ⟨rfl, s7, ?_⟩
      have eq : Dsr.event t.data.toList r = { r6 with events := r.events ++ [⟨r1.now.text, r4.2, d1, d2, d3⟩] } := by
        have h1 : Dsr.evHead t.data.toList r = r3 := by rw [Dsr.evHead, Hr1.out, Hr2.out, Hr3.out]
        have h2 : Dsr.evBody t.data.toList r = r6 := by rw [Dsr.evBody, h1, Hr4.out, Hr5.out, Hr6.out]
        have h3 : Dsr.evOf t.data.toList r = ⟨r1.now.text, r4.2, d1, d2, d3⟩ := by rw [Dsr.evOf, h1, Hr4.out, Hr1.out, Hd.out.1, Hd.out.2.1, Hd.out.2.2]
        rw [Dsr.event, if_neg H10.out, h2, h3, HE6.out]
      rw [eq]
      exact H6.out.1.then E7
end Go.Proofs.YtjmcokcdaddpcaaGreatDoor
