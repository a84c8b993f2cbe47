import Derived.Test.YtjmcokcdaddpcaaGreatDoorUs
set_option linter.unusedVariables false
set_option linter.unusedSimpArgs false
namespace Go.Proofs.YtjmcokcdaddpcaaGreatDoor
open Go.RowKit
section
variable {W : World} {b : Nat} {e : Dsr.Ev} {v : Value}
set_option maxRecDepth 100000 in
set_option maxHeartbeats 1600000 in
theorem blocks_any {k : Nat} (hk : k < 5) (rp : Nat) (h : W.heap[b]? = some (evB e v)) : Calls Tryz.prog 134 #[.agg #[.int .u8 k, ptr b, ptr rp]] W fun x w' => x = .returned (.bool (Dsr.hinders k e)) ∧ Below W.heap.size W w' := by
  have hlt : b < W.heap.size := (Array.getElem?_eq_some_iff.1 h).1
  have HX : Hid (∀ o1 o2, ((W.alloc o1).alloc o2).drew.heap[b]? = some (evB e v)) := fun o1 o2 => by
    show ((W.alloc o1).alloc o2).heap[b]? = _
    rw [Below.heap_alloc _ _ _ (by simp; omega), Below.heap_alloc _ _ _ hlt]; exact h
  have HY : Hid (∀ o1 o2 w1, Below ((W.alloc o1).alloc o2).drew.heap.size ((W.alloc o1).alloc o2).drew w1 → Below W.heap.size W w1) := fun o1 o2 w1 hb => below_alloc (below_alloc ⟨hb.os, hb.tape, hb.output, hb.size, hb.block⟩)
  clear h
  rcases k with _ | _ | _ | _ | _ | k
  · go_enter Tryz.func134, Tryz.ntmps134
    go_wp2_with fail
    go_region_with (go_at_call 173; refine (evUndone_any (HX.out _ _)).mono ?_; rintro x w1 ⟨rfl, hb⟩)
    all_goals (have HB : Hid (Below W.heap.size W w1) := HY.out _ _ _ hb; clear hb; go_wp2_with fail; go_ret; exact ⟨rfl, HB.out⟩)
  · go_enter Tryz.func134, Tryz.ntmps134
    go_wp2_with fail
    go_region_with (go_at_call 94; refine (evWanted_any (HX.out _ _)).mono ?_; rintro x w1 ⟨rfl, hb⟩)
    all_goals (have HB : Hid (Below W.heap.size W w1) := HY.out _ _ _ hb; clear hb; go_wp2_with fail; go_ret; exact ⟨rfl, HB.out⟩)
  · go_enter Tryz.func134, Tryz.ntmps134
    go_wp2_with fail
    go_region_with (go_at_call 174; refine (evHarmless_any ).mono ?_; rintro x w1 ⟨rfl, hb⟩)
    all_goals (have HB : Hid (Below W.heap.size W w1) := HY.out _ _ _ hb; clear hb; go_wp2_with fail; go_ret; exact ⟨rfl, HB.out⟩)
  · go_enter Tryz.func134, Tryz.ntmps134
    go_wp2_with fail
    go_region_with (go_at_call 174; refine (evHarmless_any ).mono ?_; rintro x w1 ⟨rfl, hb⟩)
    all_goals (have HB : Hid (Below W.heap.size W w1) := HY.out _ _ _ hb; clear hb; go_wp2_with fail; go_ret; exact ⟨rfl, HB.out⟩)
  · go_enter Tryz.func134, Tryz.ntmps134
    go_wp2_with fail
    go_region_with (go_at_call 174; refine (evHarmless_any ).mono ?_; rintro x w1 ⟨rfl, hb⟩)
    all_goals (have HB : Hid (Below W.heap.size W w1) := HY.out _ _ _ hb; clear hb; go_wp2_with fail; go_ret; exact ⟨rfl, HB.out⟩)
  · omega
end
end Go.Proofs.YtjmcokcdaddpcaaGreatDoor
