import Derived.Test.YtjmcokcdaddpcaaGreatDoorHsB
set_option linter.unusedVariables false
set_option linter.unusedSimpArgs false
namespace Go.Proofs.YtjmcokcdaddpcaaGreatDoor
open Go.RowKit
/-- What was looked at is written over. -/
def overW (bs : List UInt8) (i : Nat) : List Value := List.replicate i (.int .u8 99) ++ (stained bs).drop i
theorem stained_len (bs : List UInt8) : (stained bs).length = bs.length + 8 := by simp [stained]
theorem overW_at (bs : List UInt8) {i : Nat} {v : Value} (h : (stained bs)[i]? = some v) : (overW bs i)[i]? = some v := by
  unfold overW
  rw [List.getElem?_append_right (by simp)]
  simp [h]
theorem overW_set (bs : List UInt8) {i : Nat} (h : i < bs.length + 8) : (overW bs i).set i (.int .u8 99) = overW bs (i + 1) := by
  unfold overW
  have e := List.drop_eq_getElem_cons (l := stained bs) (i := i) (by rw [stained_len]; exact h)
  rw [List.set_append_right _ _ (by simp), List.length_replicate, Nat.sub_self, e, List.set_cons_zero, List.replicate_succ', List.append_assoc]
  rfl
set_option maxRecDepth 100000 in
set_option maxHeartbeats 1600000 in
theorem clean_any (bs : List UInt8) (v : Value) (g : Nat) (w w0 : World) (h : BytesIs w0 v bs) (hb0 : Below w0.heap.size w0 w) (hgl : w0.heap.size ≤ g) (hl : bs.length ≤ 140737488351232) (hg : w.heap[g]? = some (.cells (stained bs).toArray 5 (0, 0))) :
    Calls Tryz.prog 45 #[.slice (some ⟨g, 0, none⟩) (bs.length + 8) (bs.length + 8), v] w fun e w' => e = .returned (.bool true) ∧ Below w0.heap.size w0 w' := by
  obtain ⟨va, vc, rfl⟩ := h.form
  have H : Hid (BytesIs w0 (.slice va bs.length vc) bs) := h
  have hz : (bs.length : Int) ≤ 140737488351232 := by omega
  have HG : Hid (w.heap[g]? = some (.cells (stained bs).toArray 5 (0, 0)) ∧ Below w0.heap.size w0 w) := ⟨hg, hb0⟩
  clear h hg hb0
  go_enter Tryz.func45, Tryz.ntmps45
  go_wp2_with fail
  go_loopg [5, 6] (bs.length + 8) (fun gg ov iv wr => ∃ n : Nat, ov = .bool true ∧ iv = .int .i64 n ∧ n + gg = bs.length + 8 ∧ wr.heap[g]? = some (.cells (overW bs n).toArray 5 (0, 0)) ∧ Below w0.heap.size w0 wr)
  case atStart => exact ⟨0, rfl, rfl, by omega, HG.out.1, HG.out.2⟩
  case round =>
    obtain ⟨n, rfl, rfl, hn, hc, hb⟩ := hrel
    have HC : Hid (wr.heap[g]? = some (.cells (overW bs n).toArray 5 (0, 0)) ∧ Below w0.heap.size w0 wr) := ⟨hc, hb⟩
    by_cases hi : n < bs.length + 8
    · obtain ⟨m, rfl⟩ : ∃ m, gk = m + 1 := ⟨gk - 1, by omega⟩
      have ez := frozen_of hc n
      by_cases hi2 : n < bs.length
      · obtain ⟨c, hcc⟩ : ∃ c, bs[n]? = some c := ⟨_, List.getElem?_eq_getElem hi2⟩
        obtain ⟨a, rfl, e1⟩ := (H.out.below hb).at hcc
        have e0 : wr.cell? ⟨g, n, none⟩ = some (byV c) := cell_of hc (overW_at bs (by unfold stained; rw [List.getElem?_append_left (by simpa using hi2), List.getElem?_map, hcc]; rfl))
        have hlt : g < wr.heap.size := World.block_lt_of_cell? _ _ e0
        clear hc hb
        have hcc2 : ((c.toNat : Int) == (c.toNat : Int)) = true := by simp
        go_wp2_with fail
        go_quiet (fail)
        go_wp2_with fail
        go_roundg m
        case measure => omega
        case rel => exact ⟨n + 1, rfl, by go_num, by omega, by rw [← overW_set bs hi]; exact set_of (w := wr.drewN nq) HC.out.1 _ _, Below.setCell (show Below w0.heap.size w0 (wr.drewN nq) from ⟨HC.out.2.os, HC.out.2.tape, HC.out.2.output, HC.out.2.size, HC.out.2.block⟩) hgl _⟩
      · have e0 : wr.cell? ⟨g, n, none⟩ = some (.int .u8 77) := cell_of hc (overW_at bs (by unfold stained; rw [List.getElem?_append_right (by simp; omega), List.getElem?_replicate, if_pos (by simp; omega)]))
        have hlt : g < wr.heap.size := World.block_lt_of_cell? _ _ e0
        clear hc hb
        go_wp2_with fail
        go_roundg m
        case measure => omega
        case rel => exact ⟨n + 1, rfl, by go_num, by omega, by rw [← overW_set bs hi]; exact set_of HC.out.1 _ _, HC.out.2.setCell hgl _⟩
    · have hnl : n = bs.length + 8 := by omega
      subst hnl
      clear hc hb
      go_wp2_with fail
      go_ret
      exact ⟨rfl, HC.out.2⟩
end Go.Proofs.YtjmcokcdaddpcaaGreatDoor
