import Derived.Test.YtjmcokcdaddpcaaGreatDoorHsA
import Derived.OwnWalk
import Derived.Deep.OwnRows
import Derived.Laws.OwnMore
import Derived.Lib.LazyBuf
import Derived.Test.YtjmcokcdaddpcaaGreatDoorUc
set_option linter.unusedVariables false
set_option linter.unusedSimpArgs false
namespace Go.Proofs.YtjmcokcdaddpcaaGreatDoor
open Go.RowKit
theorem below_alloc1' {w : World} (o : Obj) : Below w.heap.size w (w.alloc o) := (Below.refl _ _).alloc (Nat.le_refl _) _
/-- The bytes that are handed in lie in a block of their own, eight stains behind them. -/
def stained (bs : List UInt8) : List Value := bs.map byV ++ List.replicate 8 (.int .u8 77)
def midS (bs : List UInt8) (j : Nat) : List Value := bs.map byV ++ (List.replicate j (.int .u8 77) ++ List.replicate (8 - j) (.int .u8 0))
theorem midS_len (bs : List UInt8) {j : Nat} (h : j ≤ 8) : (midS bs j).length = bs.length + 8 := by simp [midS]; omega
theorem midS_at (bs : List UInt8) {j : Nat} (h : j < 8) : (midS bs j)[bs.length + j]? = some (.int .u8 0) := by
  unfold midS
  rw [List.getElem?_append_right (by simp), List.getElem?_append_right (by simp)]
  simp [List.getElem?_replicate]
  omega
theorem midS_set (bs : List UInt8) {j : Nat} (h : j < 8) : (midS bs j).set (bs.length + j) (.int .u8 77) = midS bs (j + 1) := by
  unfold midS
  rw [List.set_append_right _ _ (by simp), List.set_append_right _ _ (by simp)]
  have e : 8 - j = (8 - (j + 1)) + 1 := by omega
  rw [e, List.replicate_succ, List.replicate_succ']
  simp
theorem info_u8 : (Tryz.prog.info? 5).map (fun i => (i.zero, i.size, i.bytes)) = some (some (.int .u8 0), 1, 1) := by kernel_rfl
theorem splice0 (bs : List UInt8) : splice (madeCells #[.int .u8 0] (bs.length + 8)).toList 0 (bs.map byV) = midS bs 0 := by
  rw [toList_madeCells_one]
  simp [splice, midS]
theorem midS_8 (bs : List UInt8) : midS bs 8 = stained bs := by simp [midS, stained]
theorem frozen_of {w : World} {g : Nat} {cs : Array Value} {T : TypeId} (h : w.heap[g]? = some (.cells cs T (0, 0))) (o : Nat) : w.frozen? ⟨g, o, none⟩ = false := by simp [World.frozen?, h]
theorem cell_of {w : World} {g : Nat} {cs : List Value} {T : TypeId} (h : w.heap[g]? = some (.cells cs.toArray T (0, 0))) {o : Nat} {v : Value} (hv : cs[o]? = some v) : w.cell? ⟨g, o, none⟩ = some v := by simp [World.cell?, h, hv]
theorem set_of {w : World} {g : Nat} {cs : List Value} {T : TypeId} (h : w.heap[g]? = some (.cells cs.toArray T (0, 0))) (o : Nat) (v : Value) : (w.setCell ⟨g, o, none⟩ v).heap[g]? = some (.cells (cs.set o v).toArray T (0, 0)) := by
  rw [blk_set h]; simp
set_option maxRecDepth 100000 in
set_option maxHeartbeats 1600000 in
theorem given_any (bs : List UInt8) (v : Value) (w : World) (h : BytesIs w v bs) (hl : bs.length ≤ 140737488351232) :
    Calls Tryz.prog 42 #[v] w fun e w' => ∃ g, e = .returned (.slice (some ⟨g, 0, none⟩) (bs.length + 8) (bs.length + 8)) ∧ w.heap.size ≤ g ∧ w'.heap[g]? = some (.cells (stained bs).toArray 5 (0, 0)) ∧ Below w.heap.size w w' := by
  obtain ⟨va, vc, rfl⟩ := h.form
  have H : Hid (BytesIs w (.slice va bs.length vc) bs) := h
  have hz : (bs.length : Int) ≤ 140737488351232 := by omega
  clear h
  obtain ⟨i0, hi, hz0, hz1, hz2⟩ := info_parts info_u8
  have HP : Hid (0 < (bs.map byV).length → (some ⟨w.heap.size, 0, none⟩ : Option Addr) = some ⟨w.heap.size, 0, none⟩ ∧ ∃ ad, va = some ad ∧ ∀ j v, (bs.map byV)[j]? = some v → (w.alloc (.cells (madeCells #[.int .u8 0] (bs.length + 8)) 5)).cell? (ad.add j) = some v) := by
    intro h0
    refine ⟨rfl, ?_⟩
    have hl0 : 0 < bs.length := by simpa using h0
    obtain ⟨ad, rfl, -⟩ := H.out.at (i := 0) (c := bs[0]) (List.getElem?_eq_getElem hl0)
    refine ⟨ad, rfl, ?_⟩
    intro j u hu
    rw [List.getElem?_map, Option.map_eq_some_iff] at hu
    obtain ⟨c, hc, rfl⟩ := hu
    obtain ⟨ad', e, h⟩ := H.out.at hc
    injection e with e
    subst e
    rw [(below_alloc1' _).cell (World.block_lt_of_cell? _ _ h)]
    exact h
  go_enter Tryz.func42, Tryz.ntmps42
  go_wp2_with (first
    | (at_make; refine wpList_make_row _ rfl _ _ 27 rfl 5 i0 (.int .u8 0) Tryz.underlying27 hi hz0 hz1 rfl .i64 .i64 (bs.length + 8) (by simp [Act.eval, Act.put]) (by simp [Act.eval, Act.put]) (by rw [hz2]; omega) (by omega) ?_)
    | (refine wpList_copy_splice rfl _ _ _ _ rfl 5 Tryz.underlying27 (by rw [hi]; simp [hz1]) (some ⟨w.heap.size, 0, none⟩) va (bs.length + 8) (bs.length + 8) bs.length vc (by simp [Act.eval, Act.put]) (by simp [Act.eval, Act.put]) w.heap.size 0 (madeCells #[.int .u8 0] (bs.length + 8)).toList 5 (by simpa using heap_alloc_new w _) (bs.map byV) (by simp [Nat.min_def]) HP.out (by rw [toList_madeCells_one]; simp) (by intro u hu; obtain ⟨c, _, rfl⟩ := List.mem_map.1 hu; rfl) w.heap.size w (below_alloc1' _) (Nat.le_refl _) ?_; intro w1 HC hb1))
  have HC1 : Hid (w1.heap[w.heap.size]? = some (.cells (midS bs 0).toArray 5 (0, 0))) := by
    have := HC.out
    rw [splice0] at this
    exact this
  have HB1 : Hid (Below w.heap.size w w1) := hb1
  clear HC hb1
  go_loopg [4] 8 (fun gg iv wr => ∃ j : Nat, iv = .int .i64 ((bs.length + j : Nat) : Int) ∧ j + gg = 8 ∧ wr.heap[w.heap.size]? = some (.cells (midS bs j).toArray 5 (0, 0)) ∧ Below w.heap.size w wr)
  case atStart => exact ⟨0, rfl, by omega, HC1.out, HB1.out⟩
  case round =>
    obtain ⟨j, rfl, hj, hc, hb⟩ := hrel
    have HCr : Hid (wr.heap[w.heap.size]? = some (.cells (midS bs j).toArray 5 (0, 0)) ∧ Below w.heap.size w wr) := ⟨hc, hb⟩
    by_cases hj8 : j < 8
    · have e0 := cell_of hc (midS_at bs hj8)
      have ez := frozen_of hc (bs.length + j)
      obtain ⟨m, rfl⟩ : ∃ m, gk = m + 1 := ⟨gk - 1, by omega⟩
      have hlt : w.heap.size < wr.heap.size := World.block_lt_of_cell? _ _ e0
      clear hc hb
      go_wp2_with fail
      go_roundg m
      case measure => omega
      case rel => exact ⟨j + 1, by go_num, by omega, by rw [← midS_set bs hj8]; exact set_of HCr.out.1 _ _, HCr.out.2.setCell (Nat.le_refl _) _⟩
    · have hj' : j = 8 := by omega
      subst hj'
      clear hc hb
      go_wp2_with fail
      go_ret
      exact ⟨w.heap.size, rfl, Nat.le_refl _, by rw [← midS_8]; exact HCr.out.1, HCr.out.2⟩
set_option maxRecDepth 100000 in
set_option maxHeartbeats 1600000 in
/-- What is handed in: of nil nothing, else the bytes with their stains behind. -/
theorem part_any (bs : List UInt8) (v : Value) (g : Nat) (w w0 : World) (h : BytesIs w0 v bs) (hl : bs.length ≤ 140737488351232) (hg : w.heap[g]? = some (.cells (stained bs).toArray 5 (0, 0))) :
    Calls Tryz.prog 43 #[.slice (some ⟨g, 0, none⟩) (bs.length + 8) (bs.length + 8), v] w fun e w' => ∃ pv, e = .returned pv ∧ w' = w ∧ BytesIs w pv bs ∧ (pv = .slice none 0 0 ∨ pv = .slice (some ⟨g, 0, none⟩) bs.length (bs.length + 8)) := by
  have hz : (bs.length : Int) ≤ 140737488351232 := by omega
  rcases h with ⟨rfl, rfl⟩ | ⟨a, cap, rfl, h2, h3, h4⟩
  · have en := run_eql_slice_nil (P := Tryz.prog) w 27 5 none 0 0 Tryz.underlying27
    go_enter Tryz.func43, Tryz.ntmps43
    go_wp2_with fail
    go_ret
    exact ⟨_, rfl, rfl, .inl ⟨rfl, rfl⟩, .inl rfl⟩
  · have HB : Hid (BytesIs w (.slice (some ⟨g, 0, none⟩) bs.length (bs.length + 8)) bs) := .inr ⟨⟨g, 0, none⟩, bs.length + 8, rfl, by omega, by unfold maxLen; omega, fun i c hi => by
      have := cell_of hg (o := i) (v := byV c) (by unfold stained; rw [List.getElem?_append_left (by simp; exact (List.getElem?_eq_some_iff.1 hi).1), List.getElem?_map, hi]; rfl)
      simpa [Addr.add_lit] using this⟩
    clear h4 hg
    have en := run_eql_slice_nil (P := Tryz.prog) w 27 5 (some a) bs.length cap Tryz.underlying27
    go_enter Tryz.func43, Tryz.ntmps43
    go_wp2_with fail
    go_ret
    exact ⟨_, rfl, rfl, HB.out, .inr rfl⟩
end Go.Proofs.YtjmcokcdaddpcaaGreatDoor
