import Derived.Test.YtjmcokcdaddpcaaGreatDoorUc
set_option linter.unusedVariables false
set_option linter.unusedSimpArgs false
namespace Go.Proofs.YtjmcokcdaddpcaaGreatDoor
open Go.RowKit
theorem kcell {b : Nat} {W w1 : World} (hk : Kp (· = b) W w1) : (∀ b' o, b' < W.heap.size → ¬ b' = b → w1.cell? ⟨b', o, none⟩ = W.cell? ⟨b', o, none⟩) ∧ (∀ b' o, b' < W.heap.size → ¬ b' = b → w1.frozen? ⟨b', o, none⟩ = W.frozen? ⟨b', o, none⟩) :=
  ⟨fun b' o h hn => hk.cell (a := ⟨b', o, none⟩) h hn, fun b' o h hn => hk.frozen (a := ⟨b', o, none⟩) h hn⟩
theorem signs_set {w : World} (h : SignsIn w) {g o : Nat} {v : Value} (hg : 0 < g) : SignsIn (w.setCell ⟨g, o, none⟩ v) :=
  h.kp ((Kp.refl (fun k => k = g) w).setCell (.inl rfl) v) (by omega)
theorem RdAt.mineLt {B b : Nat} {w : World} {t : ByteArray} {r : Dsr.Rd} {s : St} (h : RdAt B b w t r s) : ∀ k, Mine b s k → k < w.heap.size := fun k hk => (h.mine hk).2
/-- A store into a block that was made since. -/
theorem rd_set {B b : Nat} {w w1 : World} {t : ByteArray} {r1 : Dsr.Rd} {s : St} {S : Nat → Prop} {g : Nat} (h : RdAt B b w1 t r1 s) (hn : g ≠ b) (hk : Kp S w w1) (hr : ∀ v ∈ s.rv, ∀ k, v.ownBlock = some k → k < w.heap.size) (hm : ∀ k, Mine b s k → k < w.heap.size) (hg : w.heap.size ≤ g) (o : Nat) (v : Value) :
    RdAt B b (w1.setCell ⟨g, o, none⟩ v) t r1 s :=
  h.same fun k hk1 _ hx => heap_setCell_other _ _ _ _ (by
    show k ≠ g
    rcases hx with hx | ⟨u, hu, ho⟩
    · have := hm k hx; omega
    · have := hr u hu k ho; omega)
/-- The reader's blocks lie below N. -/
theorem rd_new {B b N : Nat} {w1 w2 : World} {t : ByteArray} {r1 : Dsr.Rd} {s : St} (h : RdAt B b w1 t r1 s) (hr : ∀ v ∈ s.rv, ∀ k, v.ownBlock = some k → k < N) (hm : ∀ k, Mine b s k → k < N) (hk : Kp (fun k => N ≤ k) w1 w2) : RdAt B b w2 t r1 s :=
  h.same fun k hk1 _ hx => hk.block k hk1 (fun hN => by
    have hN' : N ≤ k := hN
    rcases hx with hx | ⟨u, hu, ho⟩
    · have := hm k hx; omega
    · have := hr u hu k ho; omega)
theorem signs_new {N : Nat} {w1 w2 : World} (h : SignsIn w1) (hN : 0 < N) (hk : Kp (fun k => N ≤ k) w1 w2) : SignsIn w2 := h.kp hk (by omega)
theorem cells3 {w : World} {b : Nat} {c0 c1 c2 : Value} {T : TypeId} (h : w.heap[b]? = some (.cells #[c0, c1, c2] T (0, 0))) :
    w.cell? ⟨b, 0, none⟩ = some c0 ∧ w.cell? ⟨b, 1, none⟩ = some c1 ∧ w.cell? ⟨b, 2, none⟩ = some c2 ∧ ∀ o, w.frozen? ⟨b, o, none⟩ = false := by
  refine ⟨?_, ?_, ?_, ?_⟩
  · simp [World.cell?, h]
  · simp [World.cell?, h]
  · simp [World.cell?, h]
  · intro o; simp [World.frozen?, h]
theorem alloc_second (w : World) (o o' : Obj) : ((w.alloc o).alloc o').heap[w.heap.size + 1]? = some o' := by
  have h := heap_alloc_new (w.alloc o) o'
  have e : (w.alloc o).heap.size = w.heap.size + 1 := by simp
  rw [e] at h; exact h
theorem set_ne {w : World} {b g o : Nat} {v : Value} (h : b ≠ g) : (w.setCell ⟨g, o, none⟩ v).heap[b]? = w.heap[b]? := heap_setCell_other _ _ _ _ h
set_option maxRecDepth 100000 in
set_option maxHeartbeats 1600000 in
theorem firstMark_any {B b : Nat} {w : World} {t : ByteArray} {r : Dsr.Rd} {s : St} (h : RdAt B b w t r s) (hs : t.size ≤ 400) (ho : r.ok t.data.toList) (hS : SignsIn w) :
    Calls Tryz.prog 149 #[ptr b] w fun x w' => x = .returned (.agg #[.bool (Dsr.markDone t.data.toList r), .bool (Dsr.markIn r), .bool (Dsr.markDue t.data.toList r)]) ∧ RdAt B b w' t (Dsr.markRd t.data.toList r) s ∧ Kp (· = b) w w' := by
  have hlt := h.lt
  have hr := h.rvLt
  have hm := h.mineLt
  have HM : Hid ((∀ v ∈ s.rv, ∀ k, v.ownBlock = some k → k < w.heap.size) ∧ (∀ k, Mine b s k → k < w.heap.size)) := ⟨hr, hm⟩
  have H : Hid (RdAt B b w t r s) := h
  have HS : Hid (SignsIn w) := hS
  have hw0 : 0 < w.heap.size := hS.1
  have hb0 : ¬ (0 = b) := by have := h.pos; have := h.low; omega
  have n0 : ¬ w.heap.size = b := by omega
  have n1 : ¬ w.heap.size + 1 = b := by omega
  clear h hS hr hm
  go_enter Tryz.func149, Tryz.ntmps149
  go_wp2_with fail
  refine (takeIf_any 4 (H.out.below (((Below.refl _ _).alloc (Nat.le_refl _) _).alloc (by simp) _)) hs ho (HS.out.below (((Below.refl _ _).alloc (Nat.le_refl _) _).alloc (by simp) _))).mono ?_
  rintro e w1 ⟨rfl, R1, K1⟩
  have y1 : w.heap.size + 1 < w1.heap.size := by have := K1.size; simp at this; omega
  have p1 : w1.heap[w.heap.size]? = some (.cells #[.bool false, .bool false, .bool false] 48 (0, 0)) := by rw [K1.block _ (by simp; omega) n0]; exact (Below.heap_alloc _ _ _ (by simp)).trans (heap_alloc_new _ _)
  have q1 : w1.heap[w.heap.size + 1]? = some (.cells #[.bool false, .bool false, .bool false] 48 (0, 0)) := by rw [K1.block _ (by simp) n1]; exact alloc_second _ _ _
  obtain ⟨a0, a1, a2, fa⟩ := cells3 q1
  have H1 : Hid (RdAt B b w1 t (Dsr.takeIf t.data.toList r 4) s ∧ Kp (· = b) w w1 ∧ SignsIn w1) :=
    ⟨R1, (((Kp.refl _ w).alloc _).alloc _).trans K1 (fun _ h => .inl h), (HS.out.below (((Below.refl _ _).alloc (Nat.le_refl _) _).alloc (by simp) _)).kp K1 hb0⟩
  have P1 : Hid (w1.heap[w.heap.size]? = some (.cells #[.bool false, .bool false, .bool false] 48 (0, 0)) ∧ w1.heap[w.heap.size + 1]? = some (.cells #[.bool false, .bool false, .bool false] 48 (0, 0))) := ⟨p1, q1⟩
  clear R1 K1 p1 q1
  go_wp2_with fail
  refine (takeIf_any 5 (rd_new H1.out.1 HM.out.1 HM.out.2 ((Kp.refl _ _).setCell (.inl (by simp)) _)) hs (Dsr.takeIf_ok ho 4) (signs_new H1.out.2.2 hw0 ((Kp.refl _ _).setCell (.inl (by simp)) _))).mono ?_
  rintro e w2 ⟨rfl, R2, K2⟩
  have y2 : w.heap.size + 1 < w2.heap.size := by have := K2.size; simp at this; omega
  have p2 := (K2.block w.heap.size (by simp; omega) n0).trans ((set_ne (by omega)).trans P1.out.1)
  have q2 := (K2.block (w.heap.size + 1) (by simp; omega) n1).trans (blk_set P1.out.2 _ _)
  have H2 : Hid (RdAt B b w2 t (Dsr.takeIf t.data.toList (Dsr.takeIf t.data.toList r 4) 5) s ∧ Kp (· = b) w w2 ∧ SignsIn w2) :=
    ⟨R2, (H1.out.2.1.setCell (.inr (by simp)) _).trans K2 (fun _ h => .inl h), (signs_new H1.out.2.2 hw0 ((Kp.refl _ _).setCell (.inl (by simp)) _)).kp K2 hb0⟩
  clear R2 K2 a0 a1 a2 fa
  simp only [List.setIfInBounds_toArray, List.set_cons_succ, List.set_cons_zero] at q2
  obtain ⟨a0, a1, a2, fa⟩ := cells3 q2
  have P2 : Hid (_ ∧ _) := ⟨p2, q2⟩
  clear p2 q2
  go_wp2_with fail
  refine (takeIf_any 6 (rd_new H2.out.1 HM.out.1 HM.out.2 ((Kp.refl _ _).setCell (.inl (by simp)) _)) hs (Dsr.takeIf_ok (Dsr.takeIf_ok ho 4) 5) (signs_new H2.out.2.2 hw0 ((Kp.refl _ _).setCell (.inl (by simp)) _))).mono ?_
  rintro e w3 ⟨rfl, R3, K3⟩
  have y3 : w.heap.size + 1 < w3.heap.size := by have := K3.size; simp at this; omega
  have p3 := (K3.block w.heap.size (by simp; omega) n0).trans ((set_ne (by omega)).trans P2.out.1)
  have q3 := (K3.block (w.heap.size + 1) (by simp; omega) n1).trans (blk_set P2.out.2 _ _)
  have H3 : Hid (RdAt B b w3 t (Dsr.markRd t.data.toList r) s ∧ Kp (· = b) w w3) :=
    ⟨R3, (H2.out.2.1.setCell (.inr (by simp)) _).trans K3 (fun _ h => .inl h)⟩
  clear R3 K3 a0 a1 a2 fa
  simp only [List.setIfInBounds_toArray, List.set_cons_succ, List.set_cons_zero] at q3
  obtain ⟨a0, a1, a2, fa⟩ := cells3 q3
  obtain ⟨b0, b1, b2, fb⟩ := cells3 p3
  clear p3 q3
  go_wp2_with fail
  refine bodyPost_ret (v := .agg #[.bool (Dsr.markDone t.data.toList r), .bool (Dsr.markIn r), .bool (Dsr.markDue t.data.toList r)]) ?_ rfl ⟨rfl, ?_, ?_⟩
  · simp [results, Tryz.results149, go_sem, a0, a1, a2, b0, b1, b2, fa, fb, Dsr.markDone, Dsr.markIn, Dsr.markDue]
  · exact rd_new H3.out.1 HM.out.1 HM.out.2 (((((Kp.refl _ _).setCell (.inl (by simp)) _).setCell (.inl (by simp)) _).setCell (.inl (by simp)) _).setCell (.inl (by simp)) _)
  · exact (((H3.out.2.setCell (.inr (by simp)) _).setCell (.inr (by simp)) _).setCell (.inr (by simp)) _).setCell (.inr (by simp)) _
end Go.Proofs.YtjmcokcdaddpcaaGreatDoor
