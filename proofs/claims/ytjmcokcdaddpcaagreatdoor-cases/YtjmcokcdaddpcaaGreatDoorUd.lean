import Derived.Test.YtjmcokcdaddpcaaGreatDoorUc
import Derived.OwnWalk
import Derived.Deep.OwnRows
import Derived.Laws.OwnMore
import Derived.Lib.LazyBuf
import Derived.Test.YtjmcokcdaddpcaaGreatDoorUb
import Derived.Test.YtjmcokcdaddpcaaGreatDoorUa
import Derived.Deep.AppendLies
import Derived.Lib.AppendStr
import Derived.KernelRfl
import Derived.Deep.LoopGhost
set_option linter.unusedVariables false
set_option linter.unusedSimpArgs false
namespace Go.Proofs.YtjmcokcdaddpcaaGreatDoor
open Go.RowKit
theorem below_alloc1' {w : World} (o : Obj) : Below w.heap.size w (w.alloc o) := (Below.refl _ _).alloc (Nat.le_refl _) _
/-- The bytes that are handed in lie in a block of their own, eight stains behind them. -/
def stained (bs : List UInt8) : List Value := bs.map byV ++ List.replicate 8 (.int .u8 77)
def midS (bs : List UInt8) (j : Nat) : List Value := bs.map byV ++ (List.replicate j (.int .u8 77) ++ List.replicate (8 - j) (.int .u8 0))
theorem midS_len (bs : List UInt8) {j : Nat} (h : j ≤ 8) : (midS bs j).length = bs.length + 8 := by simp [midS]; omega
theorem midS_at (bs : List UInt8) {j : Nat} (h : j < 8) : (midS bs j)[bs.length + j]? = some (.int .u8 0) := by
  unfold midS
  rw [List.getElem?_append_right (by simp), List.getElem?_append_right (by simp)]
  simp [List.getElem?_replicate]
  omega
theorem midS_set (bs : List UInt8) {j : Nat} (h : j < 8) : (midS bs j).set (bs.length + j) (.int .u8 77) = midS bs (j + 1) := by
  unfold midS
  rw [List.set_append_right _ _ (by simp), List.set_append_right _ _ (by simp)]
  have e : 8 - j = (8 - (j + 1)) + 1 := by omega
  rw [e, List.replicate_succ, List.replicate_succ']
  simp
theorem info_u8 : (Tryz.prog.info? 5).map (fun i => (i.zero, i.size, i.bytes)) = some (some (.int .u8 0), 1, 1) := by kernel_rfl
theorem splice0 (bs : List UInt8) : splice (madeCells #[.int .u8 0] (bs.length + 8)).toList 0 (bs.map byV) = midS bs 0 := by
  rw [toList_madeCells_one]
  simp [splice, midS]
theorem midS_8 (bs : List UInt8) : midS bs 8 = stained bs := by simp [midS, stained]
theorem frozen_of {w : World} {g : Nat} {cs : Array Value} {T : TypeId} (h : w.heap[g]? = some (.cells cs T (0, 0))) (o : Nat) : w.frozen? ⟨g, o, none⟩ = false := by simp [World.frozen?, h]
theorem cell_of {w : World} {g : Nat} {cs : List Value} {T : TypeId} (h : w.heap[g]? = some (.cells cs.toArray T (0, 0))) {o : Nat} {v : Value} (hv : cs[o]? = some v) : w.cell? ⟨g, o, none⟩ = some v := by simp [World.cell?, h, hv]
theorem set_of {w : World} {g : Nat} {cs : List Value} {T : TypeId} (h : w.heap[g]? = some (.cells cs.toArray T (0, 0))) (o : Nat) (v : Value) : (w.setCell ⟨g, o, none⟩ v).heap[g]? = some (.cells (cs.set o v).toArray T (0, 0)) := by
  rw [blk_set h]; simp
set_option maxRecDepth 100000 in
set_option maxHeartbeats 1600000 in
theorem given_any (bs : List UInt8) (v : Value) (w : World) (h : BytesIs w v bs) (hl : bs.length ≤ 140737488351232) :
    Calls Tryz.prog 42 #[v] w fun e w' => ∃ g, e = .returned (.slice (some ⟨g, 0, none⟩) (bs.length + 8) (bs.length + 8)) ∧ w.heap.size ≤ g ∧ w'.heap[g]? = some (.cells (stained bs).toArray 5 (0, 0)) ∧ Below w.heap.size w w' := by
  obtain ⟨va, vc, rfl⟩ := h.form
  have H : Hid (BytesIs w (.slice va bs.length vc) bs) := h
  have hz : (bs.length : Int) ≤ 140737488351232 := by omega
  clear h
  obtain ⟨i0, hi, hz0, hz1, hz2⟩ := info_parts info_u8
  have HP : Hid (0 < (bs.map byV).length → (some ⟨w.heap.size, 0, none⟩ : Option Addr) = some ⟨w.heap.size, 0, none⟩ ∧ ∃ ad, va = some ad ∧ ∀ j v, (bs.map byV)[j]? = some v → (w.alloc (.cells (madeCells #[.int .u8 0] (bs.length + 8)) 5)).cell? (ad.add j) = some v) := by
    intro h0
    refine ⟨rfl, ?_⟩
    have hl0 : 0 < bs.length := by simpa using h0
    obtain ⟨ad, rfl, -⟩ := H.out.at (i := 0) (c := bs[0]) (List.getElem?_eq_getElem hl0)
    refine ⟨ad, rfl, ?_⟩
    intro j u hu
    rw [List.getElem?_map, Option.map_eq_some_iff] at hu
    obtain ⟨c, hc, rfl⟩ := hu
    obtain ⟨ad', e, h⟩ := H.out.at hc
    injection e with e
    subst e
    rw [(below_alloc1' _).cell (World.block_lt_of_cell? _ _ h)]
    exact h
  go_enter Tryz.func42, Tryz.ntmps42
  go_wp2_with (first
    | (at_make; refine wpList_make_row _ rfl _ _ 27 rfl 5 i0 (.int .u8 0) Tryz.underlying27 hi hz0 hz1 rfl .i64 .i64 (bs.length + 8) (by simp [Act.eval, Act.put]) (by simp [Act.eval, Act.put]) (by rw [hz2]; omega) (by omega) ?_)
    | (refine wpList_copy_splice rfl _ _ _ _ rfl 5 Tryz.underlying27 (by rw [hi]; simp [hz1]) (some ⟨w.heap.size, 0, none⟩) va (bs.length + 8) (bs.length + 8) bs.length vc (by simp [Act.eval, Act.put]) (by simp [Act.eval, Act.put]) w.heap.size 0 (madeCells #[.int .u8 0] (bs.length + 8)).toList 5 (by simpa using heap_alloc_new w _) (bs.map byV) (by simp [Nat.min_def]) HP.out (by rw [toList_madeCells_one]; simp) (by intro u hu; obtain ⟨c, _, rfl⟩ := List.mem_map.1 hu; rfl) w.heap.size w (below_alloc1' _) (Nat.le_refl _) ?_; intro w1 HC hb1))
  have HC1 : Hid (w1.heap[w.heap.size]? = some (.cells (midS bs 0).toArray 5 (0, 0))) := by
    have := HC.out
    rw [splice0] at this
    exact this
  have HB1 : Hid (Below w.heap.size w w1) := hb1
  clear HC hb1
  go_loopg [4] 8 (fun gg iv wr => ∃ j : Nat, iv = .int .i64 ((bs.length + j : Nat) : Int) ∧ j + gg = 8 ∧ wr.heap[w.heap.size]? = some (.cells (midS bs j).toArray 5 (0, 0)) ∧ Below w.heap.size w wr)
  case atStart => exact ⟨0, rfl, by omega, HC1.out, HB1.out⟩
  case round =>
    obtain ⟨j, rfl, hj, hc, hb⟩ := hrel
    have HCr : Hid (wr.heap[w.heap.size]? = some (.cells (midS bs j).toArray 5 (0, 0)) ∧ Below w.heap.size w wr) := ⟨hc, hb⟩
    by_cases hj8 : j < 8
    · have e0 := cell_of hc (midS_at bs hj8)
      have ez := frozen_of hc (bs.length + j)
      obtain ⟨m, rfl⟩ : ∃ m, gk = m + 1 := ⟨gk - 1, by omega⟩
      have hlt : w.heap.size < wr.heap.size := World.block_lt_of_cell? _ _ e0
      clear hc hb
      go_wp2_with fail
      go_roundg m
      case measure => omega
      case rel => exact ⟨j + 1, by go_num, by omega, by rw [← midS_set bs hj8]; exact set_of HCr.out.1 _ _, HCr.out.2.setCell (Nat.le_refl _) _⟩
    · have hj' : j = 8 := by omega
      subst hj'
      clear hc hb
      go_wp2_with fail
      go_ret
      exact ⟨w.heap.size, rfl, Nat.le_refl _, by rw [← midS_8]; exact HCr.out.1, HCr.out.2⟩
set_option maxRecDepth 100000 in
set_option maxHeartbeats 1600000 in
/-- What is handed in: of nil nothing, else the bytes with their stains behind. -/
theorem part_any (bs : List UInt8) (v : Value) (g : Nat) (w w0 : World) (h : BytesIs w0 v bs) (hl : bs.length ≤ 140737488351232) (hg : w.heap[g]? = some (.cells (stained bs).toArray 5 (0, 0))) :
    Calls Tryz.prog 43 #[.slice (some ⟨g, 0, none⟩) (bs.length + 8) (bs.length + 8), v] w fun e w' => ∃ pv, e = .returned pv ∧ w' = w ∧ BytesIs w pv bs ∧ (pv = .slice none 0 0 ∨ pv = .slice (some ⟨g, 0, none⟩) bs.length (bs.length + 8)) := by
  have hz : (bs.length : Int) ≤ 140737488351232 := by omega
  rcases h with ⟨rfl, rfl⟩ | ⟨a, cap, rfl, h2, h3, h4⟩
  · have en := run_eql_slice_nil (P := Tryz.prog) w 27 5 none 0 0 Tryz.underlying27
    go_enter Tryz.func43, Tryz.ntmps43
    go_wp2_with fail
    go_ret
    exact ⟨_, rfl, rfl, .inl ⟨rfl, rfl⟩, .inl rfl⟩
  · have HB : Hid (BytesIs w (.slice (some ⟨g, 0, none⟩) bs.length (bs.length + 8)) bs) := .inr ⟨⟨g, 0, none⟩, bs.length + 8, rfl, by omega, by unfold maxLen; omega, fun i c hi => by
      have := cell_of hg (o := i) (v := byV c) (by unfold stained; rw [List.getElem?_append_left (by simp; exact (List.getElem?_eq_some_iff.1 hi).1), List.getElem?_map, hi]; rfl)
      simpa [Addr.add_lit] using this⟩
    clear h4 hg
    have en := run_eql_slice_nil (P := Tryz.prog) w 27 5 (some a) bs.length cap Tryz.underlying27
    go_enter Tryz.func43, Tryz.ntmps43
    go_wp2_with fail
    go_ret
    exact ⟨_, rfl, rfl, HB.out, .inr rfl⟩
end Go.Proofs.YtjmcokcdaddpcaaGreatDoor
set_option linter.unusedVariables false
set_option linter.unusedSimpArgs false
namespace Go.Proofs.YtjmcokcdaddpcaaGreatDoor
open Go.RowKit
set_option maxRecDepth 100000 in
set_option maxHeartbeats 1600000 in
theorem recHash_any (bs : List UInt8) (v : Value) (w : World) (h : BytesIs w v bs) (hl : bs.length ≤ 140737488351232) :
    Calls Tryz.prog 46 #[v] w fun e w' => e = .returned (.int .u32 (hashR bs)) ∧ Below w.heap.size w w' := by
  obtain ⟨va, vc, rfl⟩ := h.form
  have H : Hid (BytesIs w (.slice va bs.length vc) bs) := h
  have hz : (bs.length : Int) ≤ 140737488351232 := by omega
  clear h
  go_enter Tryz.func46, Tryz.ntmps46
  go_wp2_with fail
  go_loopg [3, 8] bs.length (fun g hv iv wr => ∃ k n : Nat, hv = .int .u32 k ∧ iv = .int .i64 n ∧ n + g = bs.length ∧ k = (bs.take n).foldl hashS 7 ∧ k < 4294967296 ∧ Below w.heap.size w wr)
  case atStart => exact ⟨7, 0, rfl, rfl, by omega, rfl, by decide, Below.refl _ _⟩
  case round =>
    obtain ⟨k, n, rfl, rfl, hn, hk, hk4, hb⟩ := hrel
    have HB : Hid (Below w.heap.size w wr) := hb
    by_cases hi : n < bs.length
    · obtain ⟨c, hc⟩ : ∃ c, bs[n]? = some c := ⟨_, List.getElem?_eq_getElem hi⟩
      obtain ⟨a, rfl, e0⟩ := (H.out.below hb).at hc
      obtain ⟨m, rfl⟩ : ∃ m, gk = m + 1 := ⟨gk - 1, by omega⟩
      have HK : Hid (k = (bs.take n).foldl hashS 7 ∧ bs[n]? = some c) := ⟨hk, hc⟩
      have hc8 : (c.toNat : Int) ≤ 255 := by have := c.toNat_lt; omega
      have hkI : (k : Int) ≤ 4294967295 := by omega
      have hk0 : (0 : Int) ≤ (k : Int) := by omega
      have hc0 : (0 : Int) ≤ (c.toNat : Int) := by omega
      clear hb hk hc
      go_wp2_with fail
      go_roundg m
      case measure => omega
      case rel => exact ⟨hashS k c, n + 1, congrArg (Value.int .u32) (by unfold hashS; omega), by go_num, by omega, by rw [hash_take HK.out.2, ← HK.out.1], hashS_lt k c, HB.out⟩
    · have hnl : n = bs.length := by omega
      subst hnl
      have HK : Hid (k = hashR bs) := (by rw [hk, List.take_length]; rfl : k = hashR bs)
      clear hb hk
      go_wp2_with fail
      go_ret
      exact ⟨by rw [← HK.out]; rfl, HB.out⟩
theorem hash_any (bs : List UInt8) (v : Value) (w : World) (h : BytesIs w v bs) (hl : bs.length ≤ 140737488351232) :
    Calls Tryz.prog 17 #[v] w fun e w' => e = .returned (.int .u32 (hashR bs)) ∧ Below w.heap.size w w' := by
  have H : Hid (BytesIs w v bs) := h
  clear h
  go_enter Tryz.func17, Tryz.ntmps17
  go_wp2_with fail
  refine (recHash_any bs _ w H.out hl).mono ?_
  rintro e w1 ⟨rfl, b1⟩
  have HB : Hid (Below w.heap.size w w1) := b1
  clear b1
  go_wp2_with fail
  go_ret
  exact ⟨rfl, HB.out⟩
end Go.Proofs.YtjmcokcdaddpcaaGreatDoor
set_option linter.unusedVariables false
set_option linter.unusedSimpArgs false
namespace Go.Proofs.YtjmcokcdaddpcaaGreatDoor
open Go.RowKit
/-- A slice of the call's own, what lies in it. -/
structure Row where
  v : Value
  e : TypeId
  m : Nat
  n : Nat
  xs : List Value
def Row.ok (B : Nat) (w : World) (r : Row) : Prop := w.ownsRow B r.e r.m r.v r.n r.xs
/-- The blocks of the fixed ones and of the rows. -/
def Owns (fs : List Nat) (rows : List Row) (k : Nat) : Prop := k ∈ fs ∨ ∃ r ∈ rows, r.v.ownBlock = some k
structure RowsOk (B : Nat) (w : World) (fs : List Nat) (rows : List Row) : Prop where
  own : ∀ r ∈ rows, r.ok B w
  apart : (fs.map some ++ rows.map (·.v.ownBlock)).Pairwise Differ
  low : ∀ f ∈ fs, B ≤ f ∧ f < w.heap.size
section
variable {B : Nat} {w w' : World} {fs : List Nat} {rows : List Row}
theorem RowsOk.lt (h : RowsOk B w fs rows) {k : Nat} (hk : Owns fs rows k) : B ≤ k ∧ k < w.heap.size := by
  rcases hk with hk | ⟨r, hr, hk⟩
  · exact h.low k hk
  · exact (h.own r hr).lt k hk
theorem RowsOk.same (h : RowsOk B w fs rows) (hs : w.heap.size ≤ w'.heap.size) (hk : ∀ k, k < w.heap.size → Owns fs rows k → w'.heap[k]? = w.heap[k]?) : RowsOk B w' fs rows :=
  ⟨fun r hr => ownsRow_of_block (h.own r hr) fun k hk1 hv => hk k hk1 (.inr ⟨r, hr, hv⟩), h.apart, fun f hf => ⟨(h.low f hf).1, Nat.lt_of_lt_of_le (h.low f hf).2 hs⟩⟩
theorem RowsOk.kp {S : Nat → Prop} (h : RowsOk B w fs rows) (hk : Kp S w w') (hS : ∀ k, S k → ¬ Owns fs rows k) : RowsOk B w' fs rows :=
  h.same hk.size fun k hk1 ho => hk.block k hk1 (fun hs => hS k hs ho)
/-- A row's block is no fixed one. -/
theorem RowsOk.notFixed (h : RowsOk B w fs rows) {r : Row} (hr : r ∈ rows) {k : Nat} (hk : r.v.ownBlock = some k) : k ∉ fs := by
  intro hf
  have := (List.pairwise_append.1 h.apart).2.2 (some k) (List.mem_map.2 ⟨k, hf, rfl⟩) r.v.ownBlock (List.mem_map.2 ⟨r, hr, rfl⟩)
  rcases this with h1 | h1
  · cases h1
  · exact h1 hk.symm
/-- A cell of a fixed block is written. -/
theorem RowsOk.put (h : RowsOk B w fs rows) {f : Nat} (hf : f ∈ fs) (o : Nat) (v : Value) : RowsOk B (w.setCell ⟨f, o, none⟩ v) fs rows :=
  ⟨fun r hr => ownsRow_of_block (h.own r hr) fun k hk1 hv => heap_setCell_other _ _ _ _ (fun e => h.notFixed hr hv (by rw [e]; exact hf)), h.apart, fun f' hf' => ⟨(h.low f' hf').1, by simpa [World.setCell] using (h.low f' hf').2⟩⟩
theorem RowsOk.alloc (h : RowsOk B w fs rows) (o : Obj) : RowsOk B (w.alloc o) fs rows := h.same (by simp) fun k hk _ => Below.heap_alloc _ _ _ hk
theorem RowsOk.drew (h : RowsOk B w fs rows) : RowsOk B w.drew fs rows := ⟨h.own, h.apart, h.low⟩
theorem RowsOk.drewN (h : RowsOk B w fs rows) (n : Nat) : RowsOk B (w.drewN n) fs rows := ⟨h.own, h.apart, h.low⟩
theorem RowsOk.get (h : RowsOk B w fs rows) {i : Nat} {r : Row} (hr : rows[i]? = some r) : r.ok B w := h.own r (List.mem_of_getElem? hr)
/-- Two rows' blocks differ. -/
theorem RowsOk.differ (h : RowsOk B w fs rows) {i j : Nat} {r q : Row} (hr : rows[i]? = some r) (hq : rows[j]? = some q) (hij : i ≠ j) {k : Nat} (hk : r.v.ownBlock = some k) : q.v.ownBlock ≠ some k := by
  have hp := (List.pairwise_append.1 h.apart).2.1
  rw [List.pairwise_map] at hp
  obtain ⟨hi, rfl⟩ := List.getElem?_eq_some_iff.1 hr
  obtain ⟨hj, rfl⟩ := List.getElem?_eq_some_iff.1 hq
  rw [List.pairwise_iff_getElem] at hp
  rcases Nat.lt_or_gt_of_ne hij with h1 | h1
  · exact differ_ne (hp i j hi hj h1) hk
  · exact differ_ne (differ_symm (hp j i hj hi h1)) hk
/-- The row number i has been replaced, its block the old one or a new one. -/
theorem RowsOk.setRow (h : RowsOk B w fs rows) {i : Nat} {r r' : Row} (hr : rows[i]? = some r) (hok : r'.ok B w') (hs : w.heap.size ≤ w'.heap.size)
    (hb : ∀ k, k < w.heap.size → some k ≠ r.v.ownBlock → w'.heap[k]? = w.heap[k]?) (hat : ∀ g, r'.v.ownBlock = some g → r.v.ownBlock = some g ∨ w.heap.size ≤ g) : RowsOk B w' fs (rows.set i r') := by
  obtain ⟨hi, hri⟩ := List.getElem?_eq_some_iff.1 hr
  have hmem : r ∈ rows := List.mem_of_getElem? hr
  have hother : ∀ j q, j ≠ i → rows[j]? = some q → ∀ k, q.v.ownBlock = some k → r.v.ownBlock ≠ some k := fun j q hj hq k hk => h.differ hq hr hj hk
  have hdiff : ∀ x : Option Nat, (∀ k, x = some k → k < w.heap.size ∧ r.v.ownBlock ≠ some k) → Differ x r'.v.ownBlock := by
    intro x hx
    rcases hxx : x with _ | k
    · exact .inl rfl
    · right
      intro e
      rcases hat k e.symm with h1 | h1
      · exact (hx k hxx).2 h1
      · have := (hx k hxx).1; omega
  refine ⟨?_, ?_, fun f hf => ⟨(h.low f hf).1, Nat.lt_of_lt_of_le (h.low f hf).2 hs⟩⟩
  · intro q hq
    obtain ⟨j, hj, rfl⟩ := List.getElem_of_mem hq
    rw [List.length_set] at hj
    by_cases e : j = i
    · subst e
      rw [List.getElem_set_self]
      exact hok
    · rw [List.getElem_set_ne (fun x => e x.symm)]
      have hqj : rows[j]? = some rows[j] := List.getElem?_eq_getElem hj
      exact ownsRow_of_block (h.own _ (List.getElem_mem hj)) fun k hk hv => hb k hk (fun e' => hother j _ e hqj k hv e'.symm)
  · have hp := List.pairwise_append.1 h.apart
    refine List.pairwise_append.2 ⟨hp.1, ?_, ?_⟩
    · rw [List.pairwise_map, List.pairwise_iff_getElem]
      intro a b ha hb' hab
      have ha2 : a < rows.length := by simpa using ha
      have hb2 : b < rows.length := by simpa using hb'
      have hpp := hp.2.1
      rw [List.pairwise_map, List.pairwise_iff_getElem] at hpp
      by_cases ea : a = i
      · subst ea
        have eb : a ≠ b := by omega
        rw [List.getElem_set_self, List.getElem_set_ne eb]
        have hqb : rows[b]? = some rows[b] := List.getElem?_eq_getElem hb2
        exact differ_symm (hdiff _ (fun k hk => ⟨((h.own _ (List.getElem_mem hb2)).lt k hk).2, hother b _ (fun x => eb x.symm) hqb k hk⟩))
      · rw [List.getElem_set_ne (fun x => ea x.symm)]
        have hqa : rows[a]? = some rows[a] := List.getElem?_eq_getElem ha2
        by_cases eb : b = i
        · subst eb
          rw [List.getElem_set_self]
          exact hdiff _ (fun k hk => ⟨((h.own _ (List.getElem_mem ha2)).lt k hk).2, hother a _ ea hqa k hk⟩)
        · rw [List.getElem_set_ne (fun x => eb x.symm)]
          exact hpp a b ha2 hb2 hab
    · intro x hx y hy
      obtain ⟨f, hf, rfl⟩ := List.mem_map.1 hx
      obtain ⟨q, hq, rfl⟩ := List.mem_map.1 hy
      rcases List.mem_or_eq_of_mem_set hq with hq | rfl
      · exact hp.2.2 _ hx _ (List.mem_map.2 ⟨q, hq, rfl⟩)
      · exact hdiff _ (fun k hk => by cases hk; exact ⟨(h.low f hf).2, fun e => h.notFixed hmem e hf⟩)
/-- A cell of the row number i is written. -/
theorem RowsOk.setIn (h : RowsOk B w fs rows) {i : Nat} {r : Row} (hr : rows[i]? = some r) {g c : Nat} (hv : r.v = .slice (some ⟨g, 0, none⟩) r.n c) (j : Nat) (u : Value) :
    RowsOk B (w.setCell ⟨g, j, none⟩ u) fs (rows.set i { r with xs := r.xs.set j u }) := by
  have hok := h.get hr
  have hst : (w.setCell ⟨g, j, none⟩ u).ownsRow B r.e r.m r.v r.n (r.xs.set j u) := by
    unfold Row.ok at hok
    rw [hv] at hok ⊢
    exact (hok.stored j u).1
  refine h.setRow hr hst (by simp [World.setCell]) (fun k hk hn => heap_setCell_other _ _ _ _ (fun e => hn (by rw [hv, e]; rfl))) (fun g' hg' => .inl hg')
/-- A row more. -/
theorem RowsOk.add (h : RowsOk B w fs rows) {r : Row} (hok : r.ok B w) (hn : ∀ k, r.v.ownBlock = some k → ¬ Owns fs rows k) : RowsOk B w fs (rows ++ [r]) := by
  have hdiff : ∀ x : Option Nat, (∀ k, x = some k → Owns fs rows k) → Differ x r.v.ownBlock := by
    intro x hx
    rcases hxx : x with _ | k
    · exact .inl rfl
    · exact .inr (fun e => hn k e.symm (hx k hxx))
  refine ⟨?_, ?_, h.low⟩
  · intro q hq
    rcases List.mem_append.1 hq with hq | hq
    · exact h.own q hq
    · simp at hq; subst hq; exact hok
  · rw [List.map_append, ← List.append_assoc]
    refine List.pairwise_append.2 ⟨h.apart, by simp, ?_⟩
    intro x hx y hy
    simp at hy
    subst hy
    refine hdiff x (fun k hk => ?_)
    subst hk
    rcases List.mem_append.1 hx with hx | hx
    · obtain ⟨f, hf, e⟩ := List.mem_map.1 hx
      cases e
      exact .inl hf
    · obtain ⟨q, hq, e⟩ := List.mem_map.1 hx
      exact .inr ⟨q, hq, e⟩
end
end Go.Proofs.YtjmcokcdaddpcaaGreatDoor
set_option linter.unusedVariables false
set_option linter.unusedSimpArgs false
namespace Go.Proofs.YtjmcokcdaddpcaaGreatDoor
open Go.RowKit
/-- A slice of bytes of the call's own. -/
def BOwn (B : Nat) (w : World) (v : Value) (bs : List UInt8) : Prop := w.ownsRow B 5 1 v bs.length (bs.map byV)
theorem BOwn.is {B : Nat} {w : World} {v : Value} {bs : List UInt8} (h : BOwn B w v bs) : BytesIs w v bs := by
  rcases h.2 with ⟨h1, h0⟩ | ⟨g, cap, cur, h1, hB, hb, h2, h3, h4, h5⟩
  · exact .inl ⟨h1, List.eq_nil_of_length_eq_zero h0⟩
  · refine .inr ⟨⟨g, 0, none⟩, cap, h1, h2, h3, fun i c hi => ?_⟩
    have := World.ownsRow.cells h (g := g) (by rw [h1]; rfl) i (byV c) (by rw [List.getElem?_map, hi]; rfl)
    exact this
theorem BOwn.len {B : Nat} {w : World} {a : Option Addr} {n c : Nat} {bs : List UInt8} (h : BOwn B w (.slice a n c) bs) : n = bs.length := by
  obtain ⟨_, _, e⟩ := owned_shape h
  injection e
theorem BOwn.block {B : Nat} {w w' : World} {v : Value} {bs : List UInt8} (h : BOwn B w v bs) (hb : ∀ k, k < w.heap.size → v.ownBlock = some k → w'.heap[k]? = w.heap[k]?) : BOwn B w' v bs := ownsRow_of_block h hb
theorem BOwn.below {B : Nat} {w w' : World} {v : Value} {bs : List UInt8} (h : BOwn B w v bs) (hb : Below w.heap.size w w') : BOwn B w' v bs := h.block fun k hk _ => hb.block k hk
/-- From w to w' the slice has become v'. -/
structure BStep (B : Nat) (w : World) (w' : World) (v' : Value) (bs' : List UInt8) : Prop where
  own : BOwn B w' v' bs'
  bel : Below B w w'
theorem BStep.trans {B : Nat} {w w1 w2 : World} {v1 v2 : Value} {b1 b2 : List UInt8} (h : BStep B w w1 v1 b1) (h' : BStep B w1 w2 v2 b2) : BStep B w w2 v2 b2 := ⟨h'.own, h.bel.trans h'.bel⟩
theorem byV_byte (m : Nat) : byV (Dsr.byte m) = .int .u8 ((m : Int) % 256) := by
  show Value.int .u8 ((UInt8.ofNat m).toNat : Int) = _
  rw [UInt8.toNat_ofNat']
  congr 1
theorem four_cells (n : Nat) (hn : n < 4294967296) : (Dsr.four n).map byV = [.int .u8 ((n : Int) / 16777216), .int .u8 ((n : Int) / 65536 % 256), .int .u8 ((n : Int) / 256 % 256), .int .u8 ((n : Int) % 256)] := by
  have h1 : ((n / 16777216 : Nat) : Int) % 256 = (n : Int) / 16777216 := by omega
  have h2 : ((n / 65536 : Nat) : Int) = (n : Int) / 65536 := by omega
  have h3 : ((n / 256 : Nat) : Int) = (n : Int) / 256 := by omega
  simp only [Dsr.four, List.map_cons, List.map_nil, byV_byte, h1, h2, h3]
theorem one_int {vs : List Value} (h : ∀ v ∈ vs, ∃ k n, v = .int k n) : ∀ v ∈ vs, v.oneCell' = true := fun v hv => by
  obtain ⟨k, n, rfl⟩ := h v hv
  rfl
theorem news_blk {w : World} {g : Nat} {vs : List Value} {T : TypeId} (h : w.heap[g]? = some (.cells vs.toArray T (0, 0))) : ∀ j u, vs[j]? = some u → w.cell? ((⟨g, 0, none⟩ : Addr).add j) = some u := fun j u hu => World.news_of_block h j u (by simpa using hu)
theorem BStep.of {B : Nat} {w w' : World} {v : Value} {o : Obj} {bs xs : List UInt8} {g cap m : Nat} {news : List Value} (h : BOwn B w v bs) (hB : B ≤ w.heap.size) (hnews : news = xs.map byV) (hm : m = xs.length) (hown : w'.ownsRow B 5 1 (.slice (some ⟨g, 0, none⟩) (bs.length + m) cap) (bs.length + m) (bs.map byV ++ news))
    (hg : (w.alloc o).grownBy w' v.ownBlock) : BStep B w w' (.slice (some ⟨g, 0, none⟩) (bs.length + m) cap) (bs ++ xs) := by
  subst hnews hm
  refine ⟨?_, ((Below.refl _ _).alloc hB o).grown hg (by simp; omega) (fun k hk => (World.ownsRow.lt h k hk).1)⟩
  show World.ownsRow _ _ _ _ _ (bs ++ xs).length ((bs ++ xs).map byV)
  rw [List.length_append, List.map_append]
  exact hown
/-- A text is laid behind. -/
theorem BStep.text {B : Nat} {w w' : World} {v v' : Value} {bs xs : List UInt8} (h : BOwn B w v bs) (hB : B ≤ w.heap.size) (hown : w'.ownsRow B 5 1 v' (bs.length + (⟨xs.toArray⟩ : ByteArray).size) (bs.map byV ++ Lib.strCells ⟨xs.toArray⟩))
    (hg : w.grownBy w' v.ownBlock) : BStep B w w' v' (bs ++ xs) := by
  refine ⟨?_, (Below.refl _ _).grown hg hB (fun k hk => (World.ownsRow.lt h k hk).1)⟩
  show World.ownsRow _ _ _ _ _ (bs ++ xs).length ((bs ++ xs).map byV)
  rw [List.length_append, List.map_append]
  have e0 : Lib.strCells ⟨xs.toArray⟩ = xs.map byV := by simp [Lib.strCells]
  rw [e0] at hown
  have e : (⟨xs.toArray⟩ : ByteArray).size = xs.length := by simp [ByteArray.size]
  rw [e] at hown
  exact hown
set_option maxRecDepth 100000 in
set_option maxHeartbeats 1600000 in
theorem recNumber_any {B : Nat} {w : World} {v : Value} {bs : List UInt8} (h : BOwn B w v bs) (hl : bs.length ≤ 100000) (hB : B ≤ w.heap.size) (n : Nat) (hn : n < 4294967296) :
    Calls Tryz.prog 88 #[v, .int .u32 n] w fun x w' => ∃ a m c, x = .returned (.slice a m c) ∧ BStep B w w' (.slice a m c) (bs ++ Dsr.four n) := by
  obtain ⟨va, vc, rfl⟩ := owned_shape h
  have H : Hid (BOwn B w (.slice va bs.length vc) bs) := h
  clear h
  obtain ⟨i0, hi, hz0, hz1, hz2⟩ := info_parts info_u8
  have hc := four_cells n hn
  go_enter Tryz.func88, Tryz.ntmps88
  go_wp2_with (at_builtin; refine wpList_append_lies _ rfl (.tmp 5) (.tmp 17) 27 rfl B 5 i0 _ 1 1 Tryz.underlying27 hi hz0 hz1 hz2 rfl (by decide) (.slice va bs.length vc) bs.length _ (by simp [Act.eval, Act.put]) (World.ownsRow.alloc H.out _) ⟨w.heap.size, 0, none⟩ 4 4 [.int .u8 ((n : Int) / 16777216), .int .u8 ((n : Int) / 65536 % 256), .int .u8 ((n : Int) / 256 % 256), .int .u8 ((n : Int) % 256)] (by simp [Act.eval, Act.put]) rfl (by exact news_blk (heap_alloc_new _ _)) (one_int (by simp)) (by decide) (by unfold maxLen; omega) (by omega) (by simp; omega) _ rfl ?_; intro g cap w5 hown hgrow hat hlt5)
  have HS : Hid (BStep B w w5 (.slice (some ⟨g, 0, none⟩) (bs.length + 4) cap) (bs ++ Dsr.four n)) := BStep.of H.out hB hc.symm rfl hown hgrow
  clear hown hgrow hat hc
  go_wp2_with fail
  go_ret
  exact ⟨_, _, _, rfl, HS.out⟩
theorem one_step {B : Nat} {w w' : World} {v : Value} {o : Obj} {bs : List UInt8} {x : UInt8} {g cap : Nat} {news : List Value} (h : BOwn B w v bs) (hB : B ≤ w.heap.size) (hnews : news = [x].map byV) (hown : w'.ownsRow B 5 1 (.slice (some ⟨g, 0, none⟩) (bs.length + 1) cap) (bs.length + 1) (bs.map byV ++ news))
    (hg : (w.alloc o).grownBy w' v.ownBlock) : Hid (BStep B w w' (.slice (some ⟨g, 0, none⟩) (bs.length + 1) cap) (bs ++ [x])) ∧ Hid (w'.ownsRow B 5 1 (.slice (some ⟨g, 0, none⟩) (bs.length + 1) cap) (bs.length + 1) ((bs ++ [x]).map byV)) ∧ B ≤ w'.heap.size := by
  have HS : BStep B w w' (.slice (some ⟨g, 0, none⟩) (bs.length + 1) cap) (bs ++ [x]) := BStep.of h hB hnews rfl hown hg
  refine ⟨HS, ?_, Nat.le_trans hB HS.bel.size⟩
  have := HS.own
  unfold BOwn at this
  have e1 : (bs ++ [x]).length = bs.length + 1 := by simp
  rw [e1] at this
  exact this
set_option maxRecDepth 100000 in
set_option maxHeartbeats 1600000 in
theorem recText_any {B : Nat} {w : World} {v : Value} {bs : List UInt8} (h : BOwn B w v bs) (hl : bs.length ≤ 100000) (hB : B ≤ w.heap.size) (t : List UInt8) (ht : t.length ≤ 255) :
    Calls Tryz.prog 89 #[v, strV t] w fun x w' => ∃ a m c, x = .returned (.slice a m c) ∧ BStep B w w' (.slice a m c) (bs ++ [Dsr.byte t.length] ++ t) := by
  obtain ⟨va, vc, rfl⟩ := owned_shape h
  have H : Hid (BOwn B w (.slice va bs.length vc) bs) := h
  clear h
  obtain ⟨i0, hi, hz0, hz1, hz2⟩ := info_parts info_u8
  have hc : Hid ([Value.int .u8 (t.length : Int)] = [Dsr.byte t.length].map byV) := by
    show _ = _
    simp only [List.map_cons, List.map_nil, byV_byte]
    congr 2
    omega
  have hzt : (t.length : Int) ≤ 255 := by omega
  go_enter Tryz.func89, Tryz.ntmps89
  go_wp2_with (first
    | (at_builtin; refine wpList_append_lies _ rfl (.tmp 5) (.tmp 9) 27 rfl B 5 i0 _ 1 1 Tryz.underlying27 hi hz0 hz1 hz2 rfl (by decide) (.slice va bs.length vc) bs.length _ (by simp [Act.eval, Act.put]) (World.ownsRow.alloc H.out _) ⟨w.heap.size, 0, none⟩ 1 1 [.int .u8 (t.length : Int)] (by simp [Act.eval, Act.put]) rfl (by exact news_blk (heap_alloc_new _ _)) (one_int (by simp)) (by decide) (by unfold maxLen; omega) (by omega) (by simp; omega) _ rfl ?_; intro g cap w5 hown hgrow hat hlt5; obtain ⟨HS, HO, hB5⟩ := one_step H.out hB hc.out hown hgrow; clear hown hgrow hat)
    | (at_builtin; refine Lib.wpList_append_own_string _ rfl (.tmp 10) (.tmp 11) 27 9 rfl B 5 i0 Tryz.underlying27 Tryz.underlying9 hi hz0 hz1 hz2 (.slice (some ⟨g, 0, none⟩) (bs.length + 1) cap) (bs.length + 1) _ (by simp [Act.eval, Act.put]) HO.out ⟨t.toArray⟩ (by simp [Act.eval, Act.put]) (by unfold maxLen; simp [ByteArray.size]; omega) (by simp [ByteArray.size]; omega) hB5 ?_; intro v6 w6 hown6 hgrow6 hnil6))
  have HS6 : Hid (BStep B w w6 v6 (bs ++ [Dsr.byte t.length] ++ t)) := HS.out.trans (BStep.text HS.out.own hB5 (by
    have e1 : (bs ++ [Dsr.byte t.length]).length = bs.length + 1 := by simp
    rw [e1]; exact hown6) hgrow6)
  obtain ⟨a6, c6, hv6⟩ := owned_shape HS6.out.own
  subst hv6
  clear hown6 hgrow6 hnil6
  go_wp2_with fail
  go_ret
  exact ⟨_, _, _, rfl, HS6.out⟩
end Go.Proofs.YtjmcokcdaddpcaaGreatDoor
set_option linter.unusedVariables false
set_option linter.unusedSimpArgs false
namespace Go.Proofs.YtjmcokcdaddpcaaGreatDoor
open Go.RowKit
section
variable {P : Program}
/-- An append either writes behind the slice, in its own block, or leaves all that was. -/
theorem run_append_keep (w : World) (t ty : TypeId) (base : Nat) (e : TypeId) (i : TypeInfo) (z : Value) (size bytes : Nat) (ht : P.underlying t = some (.slice e)) (hi : P.info? e = some i) (hz : i.zero = some z)
    (hsize : i.size = size) (hby : i.bytes = bytes) (hzs : z.cells.size = size) (hsz : 0 < size)
    (v : Value) (n : Nat) (xs : List Value) (hown : w.ownsRow base e size v n xs)
    (ad : Addr) (m c : Nat) (news : List Value) (hl : news.length = m * size) (hnews : ∀ j u, news[j]? = some u → w.cell? (ad.add j) = some u) (h1 : ∀ u ∈ news, u.oneCell' = true)
    (hm : 0 < m) (h63 : n + m ≤ maxLen) (hbytes : (n + m) * bytes ≤ 140737488355328) {v' : Value} {w' : World} (hr : (Builtin.append_ #[t, t] ty #[v, .slice (some ad) m c]).run P w = .ok v' w') :
    (∃ g cap, v = .slice (some ⟨g, 0, none⟩) n cap ∧ v' = .slice (some ⟨g, 0, none⟩) (n + m) cap) ∨ (v'.ownBlock = some w.heap.size ∧ ∀ k, k < w.heap.size → w'.heap[k]? = w.heap[k]?) := by
  subst hsize
  subst hby
  have hsmall : n + m ≤ 9223372036854775807 := by simp only [maxLen] at h63; omega
  rcases hown.2 with ⟨rfl, rfl⟩ | ⟨g, cap, cur, rfl, hbg, hg, hnc, hcm, hcs, htake⟩
  · right
    have hr2 := run_append_nil (P := P) w t ty e i z ht hi hz ad m c news hl hnews (by omega) (by omega) (by have hb := hbytes; simp only [Nat.zero_add] at hb; omega)
    rw [hr2] at hr
    injection hr with hv hr
    subst hr
    subst hv
    refine ⟨rfl, fun k hk => ?_⟩
    exact Below.heap_alloc w.drew _ k hk
  · by_cases hroom : n + m ≤ cap
    · left
      have hfit : n * i.size + news.length ≤ cur.size := by rw [hl, hcs, ← Nat.add_mul]; exact Nat.mul_le_mul_right _ hroom
      have hr2 := run_append_room (P := P) w t ty e i ht hi g n cap cur hg ad m c news hl hnews h1 hroom hfit
      rw [hr2] at hr
      injection hr with hr _
      subst hr
      exact ⟨g, cap, rfl, rfl⟩
    · right
      have holds : ∀ j u, xs[j]? = some u → w.cell? ((⟨g, 0, none⟩ : Addr).add j) = some u := hown.cells (g := g) rfl
      have hr2 := run_append_grow (P := P) w t ty e i z ht hi hz ⟨g, 0, none⟩ n cap xs hown.1 holds ad m c news hl hnews (by omega) (by omega) (growslice_fits (by omega) hbytes)
      rw [hr2] at hr
      injection hr with hv hr
      subst hr
      subst hv
      refine ⟨rfl, fun k hk => ?_⟩
      exact Below.heap_alloc w.drew _ k hk
theorem wpList_append_keep (w : World) {ops : Array Oper} {rest : List Oper} {o : Oper} {a : Act} {Q : Exit → Act → World → Prop} (hgd : o.guard = none) (s x : Operand) (t : TypeId)
    (ho : o.op = .call { callee := .builtin .append, args := #[s, x], argTypes := #[t, t] })
    (base : Nat) (e : TypeId) (i : TypeInfo) (z : Value) (size bytes : Nat) (ht : P.underlying t = some (.slice e)) (hi : P.info? e = some i) (hz : i.zero = some z)
    (hsize : i.size = size) (hby : i.bytes = bytes) (hzs : z.cells.size = size) (hsz : 0 < size)
    (v : Value) (n : Nat) (xs : List Value) (hs : a.eval s = v) (hown : w.ownsRow base e size v n xs)
    (ad : Addr) (m c : Nat) (news : List Value) (hx : a.eval x = .slice (some ad) m c) (hl : news.length = m * size) (hnews : ∀ j u, news[j]? = some u → w.cell? (ad.add j) = some u) (h1 : ∀ u ∈ news, u.oneCell' = true)
    (hm : 0 < m) (h63 : n + m ≤ maxLen) (hbytes : (n + m) * bytes ≤ 140737488355328) (hbase : base ≤ w.heap.size) (H : Nat) (hH : w.heap.size = H)
    (h : ∀ g cap w', w'.ownsRow base e size (.slice (some ⟨g, 0, none⟩) (n + m) cap) (n + m) (xs ++ news) → w.grownBy w' v.ownBlock → (v = .slice (some ⟨g, 0, none⟩) n cap ∨ (g = H ∧ ∀ k, k < w.heap.size → w'.heap[k]? = w.heap[k]?)) → g < w'.heap.size → wpList P ops Q rest (a.put o.dst (.slice (some ⟨g, 0, none⟩) (n + m) cap)) w') : wpList P ops Q (o :: rest) a w := by
  refine wpList_plain hgd fun K hK => ?_
  obtain ⟨g, cap, w', hr, h2, h3, h4, h5⟩ := run_append_lies (P := P) w t o.type base e i z size bytes ht hi hz hsize hby hzs hsz v n xs hown ad m c news hl hnews h1 hm h63 hbytes hbase H hH
  have hk := run_append_keep (P := P) w t o.type base e i z size bytes ht hi hz hsize hby hzs hsz v n xs hown ad m c news hl hnews h1 hm h63 hbytes hr
  unfold Oper.wp execOp
  simp only [ho, resolve, invoke, builtin, Sem.run_bind, Sem.run_pure, Result.andThen_ok, List.map_toArray, List.map_cons, List.map_nil, hs, hx, hr]
  refine hK _ _ (h g cap w' h2 h3 ?_ h5)
  rcases hk with ⟨g2, cap2, hk, hk2⟩ | hk
  · left
    injection hk2 with e1 e2 e3
    injection e1 with e1
    injection e1 with e1
    rw [e1, e3]
    exact hk
  · right
    have hg : g = w.heap.size := by simpa [Value.ownBlock] using hk.1
    exact ⟨by rw [hg, hH], hk.2⟩
end
/-- What the caller writes at a place of the k-th list. -/
def sgB (k i : Nat) : Nat := if i % 2 = 0 then k % 256 else k / 256 % 256
set_option maxRecDepth 100000 in
theorem lSign_any (k i : Nat) (hk : k < 9223372036854775807) (hi : i < 9223372036854775807) (w : World) :
    Calls Tryz.prog 82 #[.int .i64 k, .int .i64 i] w fun x w' => x = .returned (.int .u8 (sgB k i : Nat)) ∧ w' = w := by
  have hkz : (k : Int) ≤ 9223372036854775806 := by omega
  have hiz : (i : Int) ≤ 9223372036854775806 := by omega
  have hk0 : (0 : Int) ≤ (k : Int) := by omega
  have hi0 : (0 : Int) ≤ (i : Int) := by omega
  go_enter Tryz.func82, Tryz.ntmps82
  by_cases h : i % 2 = 0
  · have HS : Hid (sgB k i = k % 256) := if_pos h
    have h' : (((i : Int) % 2) == 0) = true := by rw [beq_iff_eq]; omega
    go_wp2_with fail
    go_ret
    exact ⟨by rw [HS.out]; rfl, rfl⟩
  · have HS : Hid (sgB k i = k / 256 % 256) := if_neg h
    have h' : (((i : Int) % 2) == 0) = false := by rw [beq_eq_false_iff_ne]; omega
    go_wp2_with fail
    go_ret
    exact ⟨by rw [HS.out]; rfl, rfl⟩
end Go.Proofs.YtjmcokcdaddpcaaGreatDoor
set_option linter.unusedVariables false
set_option linter.unusedSimpArgs false
namespace Go.Proofs.YtjmcokcdaddpcaaGreatDoor
open Go.RowKit
set_option maxHeartbeats 400000 in
theorem rletter_any (c : UInt8) (w : World) : Calls Tryz.prog 217 #[.int .u8 c.toNat] w fun e w' => e = .returned (.bool (Dsr.letter c)) ∧ w' = w := by
  go_enter Tryz.func217, Tryz.ntmps217
  go_wp2
  all_goals
    go_ret
    refine ⟨ret_bool ?_, rfl⟩
    unfold Dsr.letter
    rw [Bool.eq_iff_iff]; simp; try omega
set_option maxHeartbeats 400000 in
theorem rdigit_any (c : UInt8) (w : World) : Calls Tryz.prog 218 #[.int .u8 c.toNat] w fun e w' => e = .returned (.bool (Dsr.digit c)) ∧ w' = w := by
  go_enter Tryz.func218, Tryz.ntmps218
  go_wp2
  all_goals
    go_ret
    refine ⟨ret_bool ?_, rfl⟩
    unfold Dsr.digit
    rw [Bool.eq_iff_iff]; simp; try omega
/-- A reference token as a value. -/
def isW (k : Dsr.Tok) : Bool := decide (1 ≤ k.kind) && decide (k.kind ≤ 6)
def sgn (k : Dsr.Tok) : Nat := if k.kind = 9 then k.rule + 1 else 0
abbrev tkV (k : Dsr.Tok) : Value := .agg #[strV k.text, .int .i64 k.at_, .bool (isW k), .int .i64 (sgn k)]
/-- A word that is none of the graph's own. -/
theorem prefix_at (s : ByteArray) (n : Nat) (p : ByteArray) (h : n + p.size ≤ s.size) : ((s.extract n (n + p.size)).toList == p.toList) = p.data.toList.isPrefixOf (s.data.toList.drop n) := by
  rw [Bool.eq_iff_iff, List.isPrefixOf_iff_prefix, List.prefix_iff_eq_take, beq_iff_eq, Lib.extract_toList, Lib.toList_data]
  have : p.data.toList.length = p.size := by simp
  rw [this, Nat.add_sub_cancel_left]
  exact eq_comm
theorem slice_at (s : ByteArray) (n m : Nat) (h : n + m ≤ s.size) (w : World) :
    (Instr.slice 9 (.string s) (some (.int .i64 n)) (some (.int .i64 ((n : Int) + (m : Int)))) none).run Tryz.prog w = .ok (.string (s.extract n (n + m))) w := by
  have a : (0 : Int) ≤ (n : Int) + (m : Int) ∧ (n : Int) + (m : Int) ≤ (s.size : Int) := by omega
  have b : ((n : Int) + (m : Int)).toNat = n + m := by omega
  have c : (n : Int) ≤ (n : Int) + (m : Int) := by omega
  simp [Instr.slice, Instr.sliceBounds, Instr.sliceBound, asIntOf, run_underlying Tryz.underlying9, a, b, c, go_sem]
set_option maxRecDepth 100000 in
set_option maxHeartbeats 400000 in
theorem rbegins_any (s p : ByteArray) (n : Nat) (w : World) (hs : s.size ≤ 400) (hn : n ≤ s.size) (hp : p.size ≤ 10) : Calls Tryz.prog 219 #[.string s, .int .i64 n, .string p] w fun e w' => e = .returned (.bool (p.data.toList.isPrefixOf (s.data.toList.drop n))) ∧ w' = w := by
  have hnI : (n : Int) ≤ 400 := by omega
  have hpI : (p.size : Int) ≤ 10 := by omega
  by_cases h : n + p.size ≤ s.size
  · have hI : (n : Int) + (p.size : Int) ≤ (s.size : Int) := by omega
    have HE : Hid (((s.extract n (n + p.size)).toList == p.toList) = p.data.toList.isPrefixOf (s.data.toList.drop n)) := prefix_at s n p h
    have hsl : ∀ w : World, (Instr.slice 9 (.string s) (some (.int .i64 n)) (some (.int .i64 ((n : Int) + (p.size : Int)))) none).run Tryz.prog w = .ok (.string (s.extract n (n + p.size))) w := fun w => slice_at s n p.size h w
    generalize s.extract n (n + p.size) = x at *
    go_enter Tryz.func219, Tryz.ntmps219
    go_wp2
    all_goals
      go_ret
      exact ⟨ret_bool HE.out, rfl⟩
  · have hI : ¬ (n : Int) + (p.size : Int) ≤ (s.size : Int) := by omega
    have HE : Hid (false = p.data.toList.isPrefixOf (s.data.toList.drop n)) := by
      show _ = _
      symm
      rw [Bool.eq_false_iff, ne_eq, List.isPrefixOf_iff_prefix]
      intro hp
      have := hp.length_le
      simp at this
      omega
    go_enter Tryz.func219, Tryz.ntmps219
    go_wp2
    all_goals
      go_ret
      exact ⟨ret_bool HE.out, rfl⟩
set_option maxHeartbeats 800000 in
theorem risName_any (k : Dsr.Tok) (w : World) : Calls Tryz.prog 220 #[tkV k] w fun e w' => e = .returned (.bool (isW k && (Dsr.wordKind k.text == 1))) ∧ Below w.heap.size w w' := by
  go_enter Tryz.func220, Tryz.ntmps220
  go_wp2
  all_goals
    go_ret
    refine ⟨ret_bool ?_, (Below.refl _ _).alloc (Nat.le_refl _) _⟩
    simp [Dsr.wordKind, *]
    try (split <;> simp_all)
set_option maxHeartbeats 800000 in
theorem rSigns_any (w : World) : Calls Tryz.prog 118 #[] w fun e w' => e = .returned (.slice (some ⟨w.heap.size, 0, none⟩) 5 5) ∧ w' = w.alloc (.cells #[.string ⟨#[45, 62, 42]⟩, .string ⟨#[45, 62, 60, 62]⟩, .string ⟨#[42, 45, 62]⟩, .string ⟨#[45, 62, 43]⟩, .string ⟨#[45, 62, 37]⟩] 9) := by
  go_enter Tryz.func118, Tryz.ntmps118
  go_wp2
  go_ret
  exact ⟨rfl, rfl⟩
end Go.Proofs.YtjmcokcdaddpcaaGreatDoor
