import Derived.Test.YtjmcokcdaddpcaaGreatDoorHsD
import Derived.Test.YtjmcokcdaddpcaaGreatDoorHsE
set_option linter.unusedVariables false
set_option linter.unusedSimpArgs false
namespace Go.Proofs.YtjmcokcdaddpcaaGreatDoor
open Go.RowKit
/-- A slice of slices of bytes that can be read. -/
def ListIs (w : World) (v : Value) (bss : List (List UInt8)) : Prop :=
  (v = .slice none 0 0 ∧ bss = []) ∨ ∃ (a : Addr) (cap : Nat), v = .slice (some a) bss.length cap ∧ bss.length ≤ maxLen ∧ ∀ i bs, bss[i]? = some bs → ∃ bv, w.cell? (a.add i) = some bv ∧ BytesIs w bv bs ∧ bs.length ≤ 140737488351232
theorem ListIs.below {w w' : World} {v : Value} {bss : List (List UInt8)} (h : ListIs w v bss) (hb : Below w.heap.size w w') : ListIs w' v bss := by
  rcases h with h | ⟨a, cap, h1, h2, h3⟩
  · exact .inl h
  · refine .inr ⟨a, cap, h1, h2, fun i bs hi => ?_⟩
    obtain ⟨bv, c, hB, hl⟩ := h3 i bs hi
    refine ⟨bv, ?_, hB.below hb, hl⟩
    rw [hb.cell (World.block_lt_of_cell? _ _ c)]
    exact c
theorem hash_zero : hashR [0] = 7000022 := by decide
set_option maxRecDepth 100000 in
set_option maxHeartbeats 1600000 in
theorem hashes_law (w : World) (v : Value) (bss : List (List UInt8)) (h : ListIs w v bss) :
    Calls Tryz.prog 4 #[v] w fun e w' => e = .returned (.bool true) ∧ Below w.heap.size w w' := by
  have hform : ∃ a c, v = .slice a bss.length c := by
    rcases h with ⟨rfl, rfl⟩ | ⟨a, cap, h1, _⟩
    · exact ⟨_, _, rfl⟩
    · exact ⟨_, _, h1⟩
  obtain ⟨va, vc, rfl⟩ := hform
  have HS : Hid (ListIs w (.slice va bss.length vc) bss) := h
  have hml : (bss.length : Int) ≤ 9223372036854775807 := by
    rcases h with ⟨_, rfl⟩ | ⟨a, cap, _, h2, _⟩
    · simp
    · have h3 : bss.length ≤ 9223372036854775807 := Nat.le_trans h2 (by unfold maxLen; decide)
      omega
  clear h
  go_enter Tryz.func4, Tryz.ntmps4
  go_wp2_with fail
  refine (hash_any [0] _ _ ?hb (by decide)).mono ?_
  case hb =>
    refine .inr ⟨⟨w.heap.size, 0, none⟩, 1, rfl, by decide, by unfold maxLen; decide, fun i c hi => ?_⟩
    rcases i with _ | i
    · simp at hi; subst hi; exact cell_of (heap_alloc_new w _) (o := 0) (cs := [.int .u8 0]) rfl
    · simp at hi
  rintro x w1 ⟨rfl, b1⟩
  rw [hash_zero]
  have H1 : Hid (Below w.heap.size w w1) := below_alloc b1
  clear b1
  go_wp2_with fail
  go_loopg [4] bss.length (fun g iv wr => ∃ n : Nat, iv = .int .i64 n ∧ n + g = bss.length ∧ Below w.heap.size w wr)
  case atStart => exact ⟨0, rfl, by omega, H1.out⟩
  case round =>
    obtain ⟨n, rfl, hn, hb⟩ := hrel
    have HB : Hid (Below w.heap.size w wr) := hb
    by_cases hi : n < bss.length
    · have hs := HS.out.below hb
      have hc : ∃ a bv bs, va = some a ∧ wr.cell? (a.add n) = some bv ∧ BytesIs wr bv bs ∧ bs.length ≤ 140737488351232 := by
        rcases hs with ⟨_, rfl⟩ | ⟨a, cap, h1, _, h3⟩
        · simp at hi
        · injection h1 with h1
          obtain ⟨bv, c, hB, hl⟩ := h3 n bss[n] (List.getElem?_eq_getElem hi)
          exact ⟨a, bv, bss[n], h1, c, hB, hl⟩
      obtain ⟨a, bv, bs, rfl, hc, hB, hl⟩ := hc
      obtain ⟨ba, bc', rfl⟩ := hB.form
      obtain ⟨m, rfl⟩ : ∃ m, gk = m + 1 := ⟨gk - 1, by omega⟩
      have HH : Hid (BytesIs wr (.slice ba bs.length bc') bs ∧ bs.length ≤ 140737488351232) := ⟨hB, hl⟩
      clear hs hb hB hl
      go_wp2_with fail
      refine (texts_hash hash_any bs _ _ HH.out.1 HH.out.2).mono ?_
      rintro e w2 ⟨rfl, b2⟩
      have H2 : Hid (Below w.heap.size w w2) := HB.out.trans (b2.mono HB.out.size)
      clear b2
      go_wp2_with fail
      go_roundg m
      case measure => omega
      case rel => exact ⟨n + 1, by go_num, by omega, H2.out⟩
    · have hnl : n = bss.length := by omega
      subst hnl
      clear hb
      go_wp2_with fail
      go_ret
      exact ⟨rfl, HB.out⟩
end Go.Proofs.YtjmcokcdaddpcaaGreatDoor
