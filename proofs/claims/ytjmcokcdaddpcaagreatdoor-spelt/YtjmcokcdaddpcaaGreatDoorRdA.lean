import Derived.Test.YtjmcokcdaddpcaaGreatDoorMem
set_option linter.unusedVariables false
set_option linter.unusedSimpArgs false
namespace Go.Proofs.YtjmcokcdaddpcaaGreatDoor
open Go.RowKit
abbrev ptr (b : Nat) : Value := .pointer (some ⟨b, 0, none⟩)
/-- Stores into the reader's block, one behind the other. -/
theorem blk_set {w : World} {b : Nat} {cs : Array Value} {T : TypeId} (h : w.heap[b]? = some (.cells cs T (0, 0))) (o : Nat) (v : Value) :
    (w.setCell ⟨b, o, none⟩ v).heap[b]? = some (.cells (cs.setIfInBounds o v) T (0, 0)) := heap_setCell_same w b o cs T v h
theorem blk_drew {w : World} {b : Nat} {o : Option Obj} (h : w.heap[b]? = o) : w.drew.heap[b]? = o := h
theorem Kp.set {b : Nat} {w w1 : World} (h : Kp (· = b) w w1) (o : Nat) (v : Value) : Kp (· = b) w (w1.setCell ⟨b, o, none⟩ v) := h.setCell (.inl rfl) v
theorem scan_at (t : ByteArray) (i : Int) (n : Nat) (w : World) (hi : i = (n : Int)) (hs : t.size ≤ 400) (hn : n ≤ t.size) (hS : SignsIn w) :
    Calls Tryz.prog 98 #[.string t, .int .i64 i] w fun e w' => e = .returned (tokV (Dsr.scan t.data.toList n)) ∧ Below w.heap.size w w' := by
  subst hi; exact scan_any t n w hs hn hS
theorem wrap_sum (a b : Nat) {n : Nat} (h : a + b ≤ n) (hn : n ≤ 400) : IntKind.i64.wrap ((a : Int) + (b : Int)) = ((a + b : Nat) : Int) := by
  have e : ((a : Int) + (b : Int)) = ((a + b : Nat) : Int) := by omega
  rw [e]
  exact IntWalk.i64_in _ (by omega)
theorem RdAt.below {B b : Nat} {w w1 : World} {t : ByteArray} {r : Dsr.Rd} {s : St} (h : RdAt B b w t r s) (hb : Below w.heap.size w w1) : RdAt B b w1 t r s :=
  h.same fun k hk _ _ => hb.block k hk
/-- What the walk wants behind a call that makes memory alone. -/
theorem rd_after {B b : Nat} {w w1 : World} {t : ByteArray} {r : Dsr.Rd} {s : St} (h : RdAt B b w t r s) (hb : Below w.drew.heap.size w.drew w1) :
    Hid (RdAt B b w1 t r s ∧ Below w.heap.size w w1) ∧ w1.cell? ⟨b, 1, none⟩ = some (.int .u8 r.now.kind) ∧ w1.cell? ⟨b, 2, none⟩ = some (.int .u8 r.now.rule) ∧ w1.cell? ⟨b, 3, none⟩ = some (.int .i64 r.now.at_) ∧ w1.cell? ⟨b, 4, none⟩ = some (strV r.now.text) ∧ (∀ o, w1.frozen? ⟨b, o, none⟩ = false) := by
  have hb' : Below w.heap.size w w1 := ⟨hb.os, hb.tape, hb.output, hb.size, hb.block⟩
  have h1 := h.below hb'
  obtain ⟨c0, c1, c2, c3, c4, c5, c6, c7, c8, c9, fz⟩ := h1.cells
  exact ⟨⟨h1, hb'⟩, c1, c2, c3, c4, fz⟩
theorem signs_drew {w : World} (h : SignsIn w) : SignsIn w.drew := h
set_option maxRecDepth 100000 in
set_option maxHeartbeats 400000 in
theorem refuse_any {B b : Nat} {w : World} {t : ByteArray} {r : Dsr.Rd} {s : St} (e : Nat) (h : RdAt B b w t r s) (hs : t.size ≤ 400) :
    Calls Tryz.prog 101 #[ptr b, .int .i64 e] w fun x w' => x = .returned (.tuple #[]) ∧ RdAt B b w' t (Dsr.refuse t.data.toList r e) s ∧ Kp (· = b) w w' := by
  obtain ⟨c0, c1, c2, c3, c4, c5, c6, c7, c8, c9, fz⟩ := h.cells
  have hsz : t.data.toList.length = t.size := by simp
  by_cases h0 : r.fErr = 0
  · have hb : ((r.fErr : Int) == 0) = true := by simp [h0]
    have H : Hid (RdAt B b w t r s) := h
    have H0 : Hid (r.fErr = 0) := h0
    clear h h0
    go_enter Tryz.func101, Tryz.ntmps101
    go_wp2
    go_end0
    refine ⟨rfl, H.out.put rfl rfl rfl ?_ ?_, ?_⟩
    · rw [blk_set (blk_set (blk_set (blk_set (blk_set (blk_set H.out.blk 8 _) 9 _) 1 _) 2 _) 3 _) 4 _]
      simp [rdCells, Dsr.refuse, H0.out]
    · intro k hk hne
      repeat rw [heap_setCell_other _ _ _ _ hne]
    · exact ((((((Kp.refl _ w).set 8 _).set 9 _).set 1 _).set 2 _).set 3 _).set 4 _
  · have hb : ((r.fErr : Int) == 0) = false := by simp; omega
    have H : Hid (RdAt B b w t r s) := h
    have H0 : Hid (¬ r.fErr = 0) := h0
    clear h h0
    go_enter Tryz.func101, Tryz.ntmps101
    go_wp2
    go_end0
    refine ⟨rfl, H.out.put rfl rfl rfl ?_ ?_, ?_⟩
    · rw [blk_set (blk_set (blk_set (blk_set H.out.blk 1 _) 2 _) 3 _) 4 _]
      have h0 := H0.out
      simp [rdCells, Dsr.refuse, h0]
    · intro k hk hne
      repeat rw [heap_setCell_other _ _ _ _ hne]
    · exact ((((Kp.refl _ w).set 1 _).set 2 _).set 3 _).set 4 _
end Go.Proofs.YtjmcokcdaddpcaaGreatDoor
