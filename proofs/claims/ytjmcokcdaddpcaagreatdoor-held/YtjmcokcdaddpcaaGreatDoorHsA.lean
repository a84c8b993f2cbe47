import Derived.Test.YtjmcokcdaddpcaaGreatDoorUc
import Derived.Laws.CopyOwn
import Derived.Deep.LoopGhost
import Derived.KernelRfl
set_option linter.unusedVariables false
set_option linter.unusedSimpArgs false
namespace Go.Proofs.YtjmcokcdaddpcaaGreatDoor
open Go.RowKit
abbrev byV (c : UInt8) : Value := .int .u8 c.toNat
/-- A slice of bytes that can be read. -/
def BytesIs (w : World) (v : Value) (bs : List UInt8) : Prop :=
  (v = .slice none 0 0 ∧ bs = []) ∨ ∃ (a : Addr) (cap : Nat), v = .slice (some a) bs.length cap ∧ bs.length ≤ cap ∧ cap ≤ maxLen ∧ ∀ i c, bs[i]? = some c → w.cell? (a.add i) = some (byV c)
theorem BytesIs.below {w w' : World} {v : Value} {bs : List UInt8} (h : BytesIs w v bs) (hb : Below w.heap.size w w') : BytesIs w' v bs := by
  rcases h with h | ⟨a, cap, h1, h2, h3, h4⟩
  · exact .inl h
  · refine .inr ⟨a, cap, h1, h2, h3, fun i c hi => ?_⟩
    have := h4 i c hi
    rw [hb.cell (World.block_lt_of_cell? _ _ this)]
    exact this
theorem BytesIs.form {w : World} {v : Value} {bs : List UInt8} (h : BytesIs w v bs) : ∃ a c, v = .slice a bs.length c := by
  rcases h with ⟨rfl, rfl⟩ | ⟨a, cap, h1, _⟩
  · exact ⟨_, _, rfl⟩
  · exact ⟨_, _, h1⟩
theorem BytesIs.at {w : World} {va : Option Addr} {n vc : Nat} {bs : List UInt8} (h : BytesIs w (.slice va n vc) bs) {i : Nat} {c : UInt8} (hi : bs[i]? = some c) : ∃ a, va = some a ∧ w.cell? (a.add i) = some (byV c) := by
  rcases h with ⟨_, rfl⟩ | ⟨a, cap, h1, _, _, h3⟩
  · simp at hi
  · injection h1 with h1
    exact ⟨a, h1, h3 i c hi⟩
/-- One byte more: in whole numbers. -/
def hashS (h : Nat) (c : UInt8) : Nat := (h * 1000003 + c.toNat + 1) % 4294967296
def hashR (bs : List UInt8) : Nat := bs.foldl hashS 7
theorem hashS_lt (h : Nat) (c : UInt8) : hashS h c < 4294967296 := Nat.mod_lt _ (by decide)
theorem hash_take {bs : List UInt8} {n : Nat} {c : UInt8} (hc : bs[n]? = some c) : (bs.take (n + 1)).foldl hashS 7 = hashS ((bs.take n).foldl hashS 7) c := by
  rw [List.take_add_one, hc]; simp
set_option maxRecDepth 100000 in
set_option maxHeartbeats 1600000 in
theorem rHash_any (bs : List UInt8) (v : Value) (w : World) (h : BytesIs w v bs) (hl : bs.length ≤ 140737488351232) :
    Calls Tryz.prog 44 #[v] w fun e w' => e = .returned (.int .i64 (hashR bs)) ∧ Below w.heap.size w w' := by
  obtain ⟨va, vc, rfl⟩ := h.form
  have H : Hid (BytesIs w (.slice va bs.length vc) bs) := h
  have hz : (bs.length : Int) ≤ 140737488351232 := by omega
  clear h
  go_enter Tryz.func44, Tryz.ntmps44
  go_wp2_with fail
  go_loopg [3, 4] bs.length (fun g hv iv wr => ∃ k n : Nat, hv = .int .i64 k ∧ iv = .int .i64 n ∧ n + g = bs.length ∧ k = (bs.take n).foldl hashS 7 ∧ k < 4294967296 ∧ Below w.heap.size w wr)
  case atStart => exact ⟨7, 0, rfl, rfl, by omega, rfl, by decide, Below.refl _ _⟩
  case round =>
    obtain ⟨k, n, rfl, rfl, hn, hk, hk4, hb⟩ := hrel
    have HB : Hid (Below w.heap.size w wr) := hb
    by_cases hi : n < bs.length
    · obtain ⟨c, hc⟩ : ∃ c, bs[n]? = some c := ⟨_, List.getElem?_eq_getElem hi⟩
      obtain ⟨a, rfl, e0⟩ := (H.out.below hb).at hc
      obtain ⟨m, rfl⟩ : ∃ m, gk = m + 1 := ⟨gk - 1, by omega⟩
      have HK : Hid (k = (bs.take n).foldl hashS 7 ∧ bs[n]? = some c) := ⟨hk, hc⟩
      have hc8 : (c.toNat : Int) ≤ 255 := by have := c.toNat_lt; omega
      have hkI : (k : Int) ≤ 4294967295 := by omega
      have hk0 : (0 : Int) ≤ (k : Int) := by omega
      have hc0 : (0 : Int) ≤ (c.toNat : Int) := by omega
      clear hb hk hc
      go_wp2_with fail
      go_roundg m
      case measure => omega
      case rel => exact ⟨hashS k c, n + 1, congrArg (Value.int .i64) (by unfold hashS; omega), by go_num, by omega, by rw [hash_take HK.out.2, ← HK.out.1], hashS_lt k c, HB.out⟩
    · have hnl : n = bs.length := by omega
      subst hnl
      have HK : Hid (k = hashR bs) := (by rw [hk, List.take_length]; rfl : k = hashR bs)
      clear hb hk
      go_wp2_with fail
      go_ret
      exact ⟨by rw [← HK.out]; rfl, HB.out⟩
end Go.Proofs.YtjmcokcdaddpcaaGreatDoor
