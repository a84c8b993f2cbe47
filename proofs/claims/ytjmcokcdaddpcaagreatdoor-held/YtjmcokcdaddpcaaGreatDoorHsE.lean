import Derived.Test.YtjmcokcdaddpcaaGreatDoorHsA
set_option linter.unusedVariables false
set_option linter.unusedSimpArgs false
namespace Go.Proofs.YtjmcokcdaddpcaaGreatDoor
open Go.RowKit
set_option maxRecDepth 100000 in
set_option maxHeartbeats 1600000 in
theorem recHash_any (bs : List UInt8) (v : Value) (w : World) (h : BytesIs w v bs) (hl : bs.length ≤ 140737488351232) :
    Calls Tryz.prog 46 #[v] w fun e w' => e = .returned (.int .u32 (hashR bs)) ∧ Below w.heap.size w w' := by
  obtain ⟨va, vc, rfl⟩ := h.form
  have H : Hid (BytesIs w (.slice va bs.length vc) bs) := h
  have hz : (bs.length : Int) ≤ 140737488351232 := by omega
  clear h
  go_enter Tryz.func46, Tryz.ntmps46
  go_wp2_with fail
  go_loopg [3, 8] bs.length (fun g hv iv wr => ∃ k n : Nat, hv = .int .u32 k ∧ iv = .int .i64 n ∧ n + g = bs.length ∧ k = (bs.take n).foldl hashS 7 ∧ k < 4294967296 ∧ Below w.heap.size w wr)
  case atStart => exact ⟨7, 0, rfl, rfl, by omega, rfl, by decide, Below.refl _ _⟩
  case round =>
    obtain ⟨k, n, rfl, rfl, hn, hk, hk4, hb⟩ := hrel
    have HB : Hid (Below w.heap.size w wr) := hb
    by_cases hi : n < bs.length
    · obtain ⟨c, hc⟩ : ∃ c, bs[n]? = some c := ⟨_, List.getElem?_eq_getElem hi⟩
      obtain ⟨a, rfl, e0⟩ := (H.out.below hb).at hc
      obtain ⟨m, rfl⟩ : ∃ m, gk = m + 1 := ⟨gk - 1, by omega⟩
      have HK : Hid (k = (bs.take n).foldl hashS 7 ∧ bs[n]? = some c) := ⟨hk, hc⟩
      have hc8 : (c.toNat : Int) ≤ 255 := by have := c.toNat_lt; omega
      have hkI : (k : Int) ≤ 4294967295 := by omega
      have hk0 : (0 : Int) ≤ (k : Int) := by omega
      have hc0 : (0 : Int) ≤ (c.toNat : Int) := by omega
      clear hb hk hc
      go_wp2_with fail
      go_roundg m
      case measure => omega
      case rel => exact ⟨hashS k c, n + 1, congrArg (Value.int .u32) (by unfold hashS; omega), by go_num, by omega, by rw [hash_take HK.out.2, ← HK.out.1], hashS_lt k c, HB.out⟩
    · have hnl : n = bs.length := by omega
      subst hnl
      have HK : Hid (k = hashR bs) := (by rw [hk, List.take_length]; rfl : k = hashR bs)
      clear hb hk
      go_wp2_with fail
      go_ret
      exact ⟨by rw [← HK.out]; rfl, HB.out⟩
theorem hash_any (bs : List UInt8) (v : Value) (w : World) (h : BytesIs w v bs) (hl : bs.length ≤ 140737488351232) :
    Calls Tryz.prog 17 #[v] w fun e w' => e = .returned (.int .u32 (hashR bs)) ∧ Below w.heap.size w w' := by
  have H : Hid (BytesIs w v bs) := h
  clear h
  go_enter Tryz.func17, Tryz.ntmps17
  go_wp2_with fail
  refine (recHash_any bs _ w H.out hl).mono ?_
  rintro e w1 ⟨rfl, b1⟩
  have HB : Hid (Below w.heap.size w w1) := b1
  clear b1
  go_wp2_with fail
  go_ret
  exact ⟨rfl, HB.out⟩
end Go.Proofs.YtjmcokcdaddpcaaGreatDoor
