import Derived.Test.YtjmcokcdaddpcaaGreatDoorHsC
set_option linter.unusedVariables false
set_option linter.unusedSimpArgs false
namespace Go.Proofs.YtjmcokcdaddpcaaGreatDoor
open Go.RowKit
/-- The step of a Hash. -/
abbrev stepH (bv : Value) : Value := .agg #[.int .i64 2, .int .i64 0, .string ⟨#[]⟩, .string ⟨#[]⟩, bv, .int .i64 0, .int .i64 0]
theorem hashR_lt (bs : List UInt8) : hashR bs < 4294967296 := by
  unfold hashR
  rcases List.eq_nil_or_concat bs with rfl | ⟨l, c, rfl⟩
  · decide
  · rw [List.concat_eq_append, List.foldl_append]; exact hashS_lt _ _
set_option maxRecDepth 100000 in
set_option maxHeartbeats 1600000 in
theorem texts_hash (hash : ∀ (bs : List UInt8) (v : Value) (w : World), BytesIs w v bs → bs.length ≤ 140737488351232 → Calls Tryz.prog 17 #[v] w fun e w' => e = .returned (.int .u32 (hashR bs)) ∧ Below w.heap.size w w')
    (bs : List UInt8) (v : Value) (w : World) (h : BytesIs w v bs) (hl : bs.length ≤ 140737488351232) :
    Calls Tryz.prog 16 #[stepH v] w fun e w' => e = .returned (.bool true) ∧ Below w.heap.size w w' := by
  have HH : Hid (∀ (bs : List UInt8) (v : Value) (w : World), BytesIs w v bs → bs.length ≤ 140737488351232 → Calls Tryz.prog 17 #[v] w fun e w' => e = .returned (.int .u32 (hashR bs)) ∧ Below w.heap.size w w') := hash
  obtain ⟨va, vc, rfl⟩ := h.form
  have H : Hid (BytesIs w (.slice va bs.length vc) bs) := h
  clear h hash
  go_enter Tryz.func16, Tryz.ntmps16
  go_wp2_with fail
  refine (given_any bs _ _ (H.out.below (below_alloc1' _)) hl).mono ?_
  rintro e w1 ⟨g, rfl, hgl, hg, b1⟩
  have c4 : w1.cell? ⟨w.heap.size, 4, none⟩ = some (.slice va bs.length vc) := by
    rw [b1.cell (p := ⟨w.heap.size, 4, none⟩) (by simp)]
    simp
  have hlt1 : w.heap.size < w1.heap.size := World.block_lt_of_cell? _ _ c4
  have hglt : g < w1.heap.size := by
    rcases Nat.lt_or_ge g w1.heap.size with h | h
    · exact h
    · rw [Array.getElem?_eq_none h] at hg; cases hg
  have H1 : Hid (Below w.heap.size w w1 ∧ w1.heap[g]? = some (.cells (stained bs).toArray 5 (0, 0)) ∧ w.heap.size ≤ g) := ⟨(below_alloc1' _).trans (b1.mono (by simp)), hg, by simp at hgl; omega⟩
  clear b1 hg hgl
  go_wp2_with fail
  refine (part_any bs _ g w1 w H.out hl H1.out.2.1).mono ?_
  rintro e w2 ⟨pv, rfl, rfl, hpv, hform⟩
  have hpf : ∃ pa pn pc, pv = .slice pa pn pc := by rcases hform with rfl | rfl <;> exact ⟨_, _, _, rfl⟩
  obtain ⟨pa, pn, pc, rfl⟩ := hpf
  have HPV : Hid (BytesIs w2 (.slice pa pn pc) bs) := hpv
  clear hpv hform
  go_wp2_with fail
  refine (HH.out bs _ w2 HPV.out hl).mono ?_
  rintro e w3 ⟨rfl, b3⟩
  have c43 : w3.cell? ⟨w.heap.size, 4, none⟩ = some (.slice va bs.length vc) := by rw [b3.cell (p := ⟨w.heap.size, 4, none⟩) hlt1]; exact c4
  have H3 : Hid (Below w.heap.size w w3 ∧ w3.heap[g]? = some (.cells (stained bs).toArray 5 (0, 0))) := ⟨H1.out.1.trans (b3.mono H1.out.1.size), by rw [b3.block g hglt]; exact H1.out.2.1⟩
  have hlt3 : w.heap.size < w3.heap.size := World.block_lt_of_cell? _ _ c43
  have hglt3 : g < w3.heap.size := Nat.lt_of_lt_of_le hglt b3.size
  have hh4 := hashR_lt bs
  obtain ⟨hk, hhk⟩ : ∃ hk, hashR bs = hk := ⟨_, rfl⟩
  rw [hhk] at hh4
  have HK : Hid (hashR bs = hk) := hhk
  have hkI : (hk : Int) ≤ 4294967295 := by omega
  clear b3 c4 HPV
  rw [hhk]
  clear hhk
  go_wp2_with fail
  have RH := rHash_any bs _ w3 (H.out.below H3.out.1) hl
  rw [HK.out] at RH
  refine RH.mono ?_
  rintro e w4 ⟨rfl, b4⟩
  clear RH
  have c44 : w4.cell? ⟨w.heap.size, 4, none⟩ = some (.slice va bs.length vc) := by rw [b4.cell (p := ⟨w.heap.size, 4, none⟩) hlt3]; exact c43
  have H4 : Hid (Below w.heap.size w w4 ∧ w4.heap[g]? = some (.cells (stained bs).toArray 5 (0, 0))) := ⟨H3.out.1.trans (b4.mono H3.out.1.size), by rw [b4.block g hglt3]; exact H3.out.2⟩
  have hlt4 : w.heap.size < w4.heap.size := World.block_lt_of_cell? _ _ c44
  clear b4 c43
  go_wp2_with fail
  refine (clean_any bs _ g w4 w H.out H4.out.1 H1.out.2.2 hl H4.out.2).mono ?_
  rintro e w5 ⟨rfl, b5⟩
  have H5 : Hid (Below w.heap.size w w5) := b5
  clear b5
  go_wp2_with fail
  go_ret
  exact ⟨rfl, H5.out⟩
end Go.Proofs.YtjmcokcdaddpcaaGreatDoor
