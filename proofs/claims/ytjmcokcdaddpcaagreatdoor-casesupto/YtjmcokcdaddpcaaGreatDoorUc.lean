import Derived.Test.YtjmcokcdaddpcaaGreatDoorUb
import Derived.OwnWalk
import Derived.Deep.OwnRows
import Derived.Laws.OwnMore
import Derived.Lib.LazyBuf
import Derived.Test.YtjmcokcdaddpcaaGreatDoorUa
set_option linter.unusedVariables false
set_option linter.unusedSimpArgs false
namespace Go.Proofs.YtjmcokcdaddpcaaGreatDoor
open Go.RowKit
theorem below_alloc1' {w : World} (o : Obj) : Below w.heap.size w (w.alloc o) := (Below.refl _ _).alloc (Nat.le_refl _) _
/-- The bytes that are handed in lie in a block of their own, eight stains behind them. -/
def stained (bs : List UInt8) : List Value := bs.map byV ++ List.replicate 8 (.int .u8 77)
def midS (bs : List UInt8) (j : Nat) : List Value := bs.map byV ++ (List.replicate j (.int .u8 77) ++ List.replicate (8 - j) (.int .u8 0))
theorem midS_len (bs : List UInt8) {j : Nat} (h : j ≤ 8) : (midS bs j).length = bs.length + 8 := by simp [midS]; omega
theorem midS_at (bs : List UInt8) {j : Nat} (h : j < 8) : (midS bs j)[bs.length + j]? = some (.int .u8 0) := by
  unfold midS
  rw [List.getElem?_append_right (by simp), List.getElem?_append_right (by simp)]
  simp [List.getElem?_replicate]
  omega
theorem midS_set (bs : List UInt8) {j : Nat} (h : j < 8) : (midS bs j).set (bs.length + j) (.int .u8 77) = midS bs (j + 1) := by
  unfold midS
  rw [List.set_append_right _ _ (by simp), List.set_append_right _ _ (by simp)]
  have e : 8 - j = (8 - (j + 1)) + 1 := by omega
  rw [e, List.replicate_succ, List.replicate_succ']
  simp
theorem info_u8 : (Tryz.prog.info? 5).map (fun i => (i.zero, i.size, i.bytes)) = some (some (.int .u8 0), 1, 1) := by kernel_rfl
theorem splice0 (bs : List UInt8) : splice (madeCells #[.int .u8 0] (bs.length + 8)).toList 0 (bs.map byV) = midS bs 0 := by
  rw [toList_madeCells_one]
  simp [splice, midS]
theorem midS_8 (bs : List UInt8) : midS bs 8 = stained bs := by simp [midS, stained]
theorem frozen_of {w : World} {g : Nat} {cs : Array Value} {T : TypeId} (h : w.heap[g]? = some (.cells cs T (0, 0))) (o : Nat) : w.frozen? ⟨g, o, none⟩ = false := by simp [World.frozen?, h]
theorem cell_of {w : World} {g : Nat} {cs : List Value} {T : TypeId} (h : w.heap[g]? = some (.cells cs.toArray T (0, 0))) {o : Nat} {v : Value} (hv : cs[o]? = some v) : w.cell? ⟨g, o, none⟩ = some v := by simp [World.cell?, h, hv]
theorem set_of {w : World} {g : Nat} {cs : List Value} {T : TypeId} (h : w.heap[g]? = some (.cells cs.toArray T (0, 0))) (o : Nat) (v : Value) : (w.setCell ⟨g, o, none⟩ v).heap[g]? = some (.cells (cs.set o v).toArray T (0, 0)) := by
  rw [blk_set h]; simp
set_option maxRecDepth 100000 in
set_option maxHeartbeats 1600000 in
theorem given_any (bs : List UInt8) (v : Value) (w : World) (h : BytesIs w v bs) (hl : bs.length ≤ 140737488351232) :
    Calls Tryz.prog 42 #[v] w fun e w' => ∃ g, e = .returned (.slice (some ⟨g, 0, none⟩) (bs.length + 8) (bs.length + 8)) ∧ w.heap.size ≤ g ∧ w'.heap[g]? = some (.cells (stained bs).toArray 5 (0, 0)) ∧ Below w.heap.size w w' := by
  obtain ⟨va, vc, rfl⟩ := h.form
  have H : Hid (BytesIs w (.slice va bs.length vc) bs) := h
  have hz : (bs.length : Int) ≤ 140737488351232 := by omega
  clear h
  obtain ⟨i0, hi, hz0, hz1, hz2⟩ := info_parts info_u8
  have HP : Hid (0 < (bs.map byV).length → (some ⟨w.heap.size, 0, none⟩ : Option Addr) = some ⟨w.heap.size, 0, none⟩ ∧ ∃ ad, va = some ad ∧ ∀ j v, (bs.map byV)[j]? = some v → (w.alloc (.cells (madeCells #[.int .u8 0] (bs.length + 8)) 5)).cell? (ad.add j) = some v) := by
    intro h0
    refine ⟨rfl, ?_⟩
    have hl0 : 0 < bs.length := by simpa using h0
    obtain ⟨ad, rfl, -⟩ := H.out.at (i := 0) (c := bs[0]) (List.getElem?_eq_getElem hl0)
    refine ⟨ad, rfl, ?_⟩
    intro j u hu
    rw [List.getElem?_map, Option.map_eq_some_iff] at hu
    obtain ⟨c, hc, rfl⟩ := hu
    obtain ⟨ad', e, h⟩ := H.out.at hc
    injection e with e
    subst e
    rw [(below_alloc1' _).cell (World.block_lt_of_cell? _ _ h)]
    exact h
  go_enter Tryz.func42, Tryz.ntmps42
  go_wp2_with (first
    | (at_make; refine wpList_make_row _ rfl _ _ 27 rfl 5 i0 (.int .u8 0) Tryz.underlying27 hi hz0 hz1 rfl .i64 .i64 (bs.length + 8) (by simp [Act.eval, Act.put]) (by simp [Act.eval, Act.put]) (by rw [hz2]; omega) (by omega) ?_)
    | (refine wpList_copy_splice rfl _ _ _ _ rfl 5 Tryz.underlying27 (by rw [hi]; simp [hz1]) (some ⟨w.heap.size, 0, none⟩) va (bs.length + 8) (bs.length + 8) bs.length vc (by simp [Act.eval, Act.put]) (by simp [Act.eval, Act.put]) w.heap.size 0 (madeCells #[.int .u8 0] (bs.length + 8)).toList 5 (by simpa using heap_alloc_new w _) (bs.map byV) (by simp [Nat.min_def]) HP.out (by rw [toList_madeCells_one]; simp) (by intro u hu; obtain ⟨c, _, rfl⟩ := List.mem_map.1 hu; rfl) w.heap.size w (below_alloc1' _) (Nat.le_refl _) ?_; intro w1 HC hb1))
  have HC1 : Hid (w1.heap[w.heap.size]? = some (.cells (midS bs 0).toArray 5 (0, 0))) := by
    have := HC.out
    rw [splice0] at this
    exact this
  have HB1 : Hid (Below w.heap.size w w1) := hb1
  clear HC hb1
  go_loopg [4] 8 (fun gg iv wr => ∃ j : Nat, iv = .int .i64 ((bs.length + j : Nat) : Int) ∧ j + gg = 8 ∧ wr.heap[w.heap.size]? = some (.cells (midS bs j).toArray 5 (0, 0)) ∧ Below w.heap.size w wr)
  case atStart => exact ⟨0, rfl, by omega, HC1.out, HB1.out⟩
  case round =>
    obtain ⟨j, rfl, hj, hc, hb⟩ := hrel
    have HCr : Hid (wr.heap[w.heap.size]? = some (.cells (midS bs j).toArray 5 (0, 0)) ∧ Below w.heap.size w wr) := ⟨hc, hb⟩
    by_cases hj8 : j < 8
    · have e0 := cell_of hc (midS_at bs hj8)
      have ez := frozen_of hc (bs.length + j)
      obtain ⟨m, rfl⟩ : ∃ m, gk = m + 1 := ⟨gk - 1, by omega⟩
      have hlt : w.heap.size < wr.heap.size := World.block_lt_of_cell? _ _ e0
      clear hc hb
      go_wp2_with fail
      go_roundg m
      case measure => omega
      case rel => exact ⟨j + 1, by go_num, by omega, by rw [← midS_set bs hj8]; exact set_of HCr.out.1 _ _, HCr.out.2.setCell (Nat.le_refl _) _⟩
    · have hj' : j = 8 := by omega
      subst hj'
      clear hc hb
      go_wp2_with fail
      go_ret
      exact ⟨w.heap.size, rfl, Nat.le_refl _, by rw [← midS_8]; exact HCr.out.1, HCr.out.2⟩
set_option maxRecDepth 100000 in
set_option maxHeartbeats 1600000 in
/-- What is handed in: of nil nothing, else the bytes with their stains behind. -/
theorem part_any (bs : List UInt8) (v : Value) (g : Nat) (w w0 : World) (h : BytesIs w0 v bs) (hl : bs.length ≤ 140737488351232) (hg : w.heap[g]? = some (.cells (stained bs).toArray 5 (0, 0))) :
    Calls Tryz.prog 43 #[.slice (some ⟨g, 0, none⟩) (bs.length + 8) (bs.length + 8), v] w fun e w' => ∃ pv, e = .returned pv ∧ w' = w ∧ BytesIs w pv bs ∧ (pv = .slice none 0 0 ∨ pv = .slice (some ⟨g, 0, none⟩) bs.length (bs.length + 8)) := by
  have hz : (bs.length : Int) ≤ 140737488351232 := by omega
  rcases h with ⟨rfl, rfl⟩ | ⟨a, cap, rfl, h2, h3, h4⟩
  · have en := run_eql_slice_nil (P := Tryz.prog) w 27 5 none 0 0 Tryz.underlying27
    go_enter Tryz.func43, Tryz.ntmps43
    go_wp2_with fail
    go_ret
    exact ⟨_, rfl, rfl, .inl ⟨rfl, rfl⟩, .inl rfl⟩
  · have HB : Hid (BytesIs w (.slice (some ⟨g, 0, none⟩) bs.length (bs.length + 8)) bs) := .inr ⟨⟨g, 0, none⟩, bs.length + 8, rfl, by omega, by unfold maxLen; omega, fun i c hi => by
      have := cell_of hg (o := i) (v := byV c) (by unfold stained; rw [List.getElem?_append_left (by simp; exact (List.getElem?_eq_some_iff.1 hi).1), List.getElem?_map, hi]; rfl)
      simpa [Addr.add_lit] using this⟩
    clear h4 hg
    have en := run_eql_slice_nil (P := Tryz.prog) w 27 5 (some a) bs.length cap Tryz.underlying27
    go_enter Tryz.func43, Tryz.ntmps43
    go_wp2_with fail
    go_ret
    exact ⟨_, rfl, rfl, HB.out, .inr rfl⟩
end Go.Proofs.YtjmcokcdaddpcaaGreatDoor
set_option linter.unusedVariables false
set_option linter.unusedSimpArgs false
namespace Go.Proofs.YtjmcokcdaddpcaaGreatDoor
open Go.RowKit
set_option maxRecDepth 100000 in
set_option maxHeartbeats 1600000 in
theorem recHash_any (bs : List UInt8) (v : Value) (w : World) (h : BytesIs w v bs) (hl : bs.length ≤ 140737488351232) :
    Calls Tryz.prog 46 #[v] w fun e w' => e = .returned (.int .u32 (hashR bs)) ∧ Below w.heap.size w w' := by
  obtain ⟨va, vc, rfl⟩ := h.form
  have H : Hid (BytesIs w (.slice va bs.length vc) bs) := h
  have hz : (bs.length : Int) ≤ 140737488351232 := by omega
  clear h
  go_enter Tryz.func46, Tryz.ntmps46
  go_wp2_with fail
  go_loopg [3, 8] bs.length (fun g hv iv wr => ∃ k n : Nat, hv = .int .u32 k ∧ iv = .int .i64 n ∧ n + g = bs.length ∧ k = (bs.take n).foldl hashS 7 ∧ k < 4294967296 ∧ Below w.heap.size w wr)
  case atStart => exact ⟨7, 0, rfl, rfl, by omega, rfl, by decide, Below.refl _ _⟩
  case round =>
    obtain ⟨k, n, rfl, rfl, hn, hk, hk4, hb⟩ := hrel
    have HB : Hid (Below w.heap.size w wr) := hb
    by_cases hi : n < bs.length
    · obtain ⟨c, hc⟩ : ∃ c, bs[n]? = some c := ⟨_, List.getElem?_eq_getElem hi⟩
      obtain ⟨a, rfl, e0⟩ := (H.out.below hb).at hc
      obtain ⟨m, rfl⟩ : ∃ m, gk = m + 1 := ⟨gk - 1, by omega⟩
      have HK : Hid (k = (bs.take n).foldl hashS 7 ∧ bs[n]? = some c) := ⟨hk, hc⟩
      have hc8 : (c.toNat : Int) ≤ 255 := by have := c.toNat_lt; omega
      have hkI : (k : Int) ≤ 4294967295 := by omega
      have hk0 : (0 : Int) ≤ (k : Int) := by omega
      have hc0 : (0 : Int) ≤ (c.toNat : Int) := by omega
      clear hb hk hc
      go_wp2_with fail
      go_roundg m
      case measure => omega
      case rel => exact ⟨hashS k c, n + 1, congrArg (Value.int .u32) (by unfold hashS; omega), by go_num, by omega, by rw [hash_take HK.out.2, ← HK.out.1], hashS_lt k c, HB.out⟩
    · have hnl : n = bs.length := by omega
      subst hnl
      have HK : Hid (k = hashR bs) := (by rw [hk, List.take_length]; rfl : k = hashR bs)
      clear hb hk
      go_wp2_with fail
      go_ret
      exact ⟨by rw [← HK.out]; rfl, HB.out⟩
theorem hash_any (bs : List UInt8) (v : Value) (w : World) (h : BytesIs w v bs) (hl : bs.length ≤ 140737488351232) :
    Calls Tryz.prog 17 #[v] w fun e w' => e = .returned (.int .u32 (hashR bs)) ∧ Below w.heap.size w w' := by
  have H : Hid (BytesIs w v bs) := h
  clear h
  go_enter Tryz.func17, Tryz.ntmps17
  go_wp2_with fail
  refine (recHash_any bs _ w H.out hl).mono ?_
  rintro e w1 ⟨rfl, b1⟩
  have HB : Hid (Below w.heap.size w w1) := b1
  clear b1
  go_wp2_with fail
  go_ret
  exact ⟨rfl, HB.out⟩
end Go.Proofs.YtjmcokcdaddpcaaGreatDoor
namespace Dsr
theorem ok_events {t : List UInt8} {r : Rd} (h : r.ok t) (es : List Ev) : ({ r with events := es } : Rd).ok t := h
theorem ok_rules {t : List UInt8} {r : Rd} (h : r.ok t) (es : List Rl) : ({ r with rules := es } : Rd).ok t := h
theorem evHead_ok {t : List UInt8} {r : Rd} (h : r.ok t) : (evHead t r).ok t := take_ok (name_ok (take_ok h 2) 0) 3
theorem evHead_lists (t : List UInt8) (r : Rd) : (evHead t r).events = r.events ∧ (evHead t r).rules = r.rules ∧ (evHead t r).uses.length = r.uses.length + 1 := by
  unfold evHead
  obtain ⟨a1, a2, a3⟩ := take_lists t (name t (take t r 2) 0) 3
  obtain ⟨b1, b2, b3⟩ := name_lists t (take t r 2) 0
  obtain ⟨c1, c2, c3⟩ := take_lists t r 2
  rw [a1, a2, a3, b1, b2, b3, c1, c2, c3]
  exact ⟨rfl, rfl, rfl⟩
theorem evBody_ok {t : List UInt8} {r : Rd} (h : r.ok t) : (evBody t r).ok t := take_ok (markRd_ok (roles_ok (evHead_ok h))) 8
theorem evBody_lists (t : List UInt8) (r : Rd) : (evBody t r).events = r.events ∧ (evBody t r).rules = r.rules ∧ (evBody t r).uses.length ≤ r.uses.length + 7 := by
  unfold evBody
  obtain ⟨a1, a2, a3⟩ := take_lists t (markRd t (roles t (evHead t r)).1) 8
  obtain ⟨b1, b2, b3⟩ := markRd_lists t (roles t (evHead t r)).1
  obtain ⟨c1, c2, c3⟩ := roles_lists t (evHead t r)
  obtain ⟨d1, d2, d3⟩ := evHead_lists t r
  rw [a1, a2, a3, b1, b2, b3, c1, c2, d1, d2]
  exact ⟨rfl, rfl, by omega⟩
theorem event_ok {t : List UInt8} {r : Rd} (h : r.ok t) : (event t r).ok t := by
  unfold event; split
  · exact refuse_ok _
  · exact ok_events (evBody_ok h) _
theorem event_more (t : List UInt8) (r : Rd) (h : ¬ r.events.length = 10) : (event t r).events.length = r.events.length + 1 ∧ (event t r).rules = r.rules ∧ (event t r).uses.length ≤ r.uses.length + 7 := by
  obtain ⟨a1, a2, a3⟩ := evBody_lists t r
  unfold event; rw [if_neg h]
  generalize evBody t r = q at *
  exact ⟨by simp [a1], a2, a3⟩
theorem event_full (t : List UInt8) (r : Rd) (h : r.events.length = 10) : event t r = refuse t r 3 := by unfold event; rw [if_pos h]
theorem ruHead_ok {t : List UInt8} {r : Rd} (h : r.ok t) : (ruHead t r).ok t := take_ok (name_ok h 2) 9
theorem ruBody_ok {t : List UInt8} {r : Rd} (h : r.ok t) : (ruBody t r).ok t := take_ok (name_ok (ruHead_ok h) 2) 8
theorem ruBody_lists (t : List UInt8) (r : Rd) : (ruBody t r).events = r.events ∧ (ruBody t r).rules = r.rules ∧ (ruBody t r).uses.length = r.uses.length + 2 := by
  unfold ruBody ruHead
  obtain ⟨a1, a2, a3⟩ := take_lists t (name t (take t (name t r 2) 9) 2) 8
  obtain ⟨b1, b2, b3⟩ := name_lists t (take t (name t r 2) 9) 2
  obtain ⟨c1, c2, c3⟩ := take_lists t (name t r 2) 9
  obtain ⟨d1, d2, d3⟩ := name_lists t r 2
  rw [a1, a2, a3, b1, b2, b3, c1, c2, c3, d1, d2, d3]
  exact ⟨rfl, rfl, rfl⟩
theorem rule_ok {t : List UInt8} {r : Rd} (h : r.ok t) : (rule t r).ok t := by
  unfold rule; split
  · exact refuse_ok _
  · exact ok_rules (ruBody_ok h) _
theorem rule_more (t : List UInt8) (r : Rd) (h : ¬ r.rules.length = 20) : (rule t r).rules.length = r.rules.length + 1 ∧ (rule t r).events = r.events ∧ (rule t r).uses.length = r.uses.length + 2 := by
  obtain ⟨a1, a2, a3⟩ := ruBody_lists t r
  unfold rule; rw [if_neg h]
  generalize ruBody t r = q at *
  exact ⟨by simp [a2], a1, a3⟩
theorem rule_full (t : List UInt8) (r : Rd) (h : r.rules.length = 20) : rule t r = refuse t r 3 := by unfold rule; rw [if_pos h]
/-- So many rounds at most are to come. -/
def left (r : Rd) : Nat := 2 * (31 - r.events.length - r.rules.length) + if r.now.kind = 10 then 0 else 1
/-- What holds at each line's beginning. -/
structure Fine (t : List UInt8) (r0 : Rd) (f : Nat) (r : Rd) : Prop where
  eq : lines t f r = lines t 32 r0
  ok : r.ok t
  ev : r.events.length ≤ 10
  ru : r.rules.length ≤ 20
  us : r.uses.length ≤ 7 * r.events.length + 2 * r.rules.length
  fu : r.now.kind = 10 ∨ 31 ≤ f + r.events.length + r.rules.length
theorem lines_end (t : List UInt8) (f : Nat) (r : Rd) (h : r.now.kind = 10) : lines t f r = r := by
  cases f with
  | zero => rfl
  | succ f => unfold lines; rw [if_pos h]
theorem Fine.pos {t : List UInt8} {r0 r : Rd} {f : Nat} (h : Fine t r0 f r) (hk : ¬ r.now.kind = 10) : ∃ g, f = g + 1 := by
  rcases h.fu with h1 | h1
  · exact absurd h1 hk
  · have := h.ev; have := h.ru
    exact ⟨f - 1, by omega⟩
theorem Fine.onRefuse {t : List UInt8} {r0 r : Rd} {g : Nat} (h : Fine t r0 (g + 1) r) (e : Nat) (hk : ¬ r.now.kind = 10) (he : lines t (g + 1) r = lines t g (refuse t r e)) : Fine t r0 g (refuse t r e) ∧ left (refuse t r e) < left r :=
  ⟨⟨he.symm.trans h.eq, refuse_ok e, h.ev, h.ru, h.us, .inl rfl⟩, by
    have h1 : (Dsr.refuse t r e).events = r.events := rfl
    have h2 : (Dsr.refuse t r e).rules = r.rules := rfl
    have h3 : (Dsr.refuse t r e).now.kind = 10 := rfl
    unfold left; rw [h1, h2, h3, if_pos rfl, if_neg hk]; omega⟩
theorem Fine.onEvent {t : List UInt8} {r0 r : Rd} {g : Nat} (h : Fine t r0 (g + 1) r) (hk : r.now.kind = 2) : Fine t r0 g (event t r) ∧ left (event t r) < left r := by
  have hk' : ¬ r.now.kind = 10 := by omega
  have he : lines t (g + 1) r = lines t g (event t r) := by rw [lines, if_neg hk', if_pos hk]
  by_cases h10 : r.events.length = 10
  · rw [event_full t r h10] at he ⊢
    exact h.onRefuse 3 hk' he
  · obtain ⟨a1, a2, a3⟩ := event_more t r h10
    have := h.ev; have := h.ru; have := h.us
    refine ⟨⟨he.symm.trans h.eq, event_ok h.ok, by omega, by rw [a2]; omega, by rw [a1, a2]; omega, ?_⟩, ?_⟩
    · rcases h.fu with h1 | h1
      · exact absurd h1 hk'
      · right; rw [a1, a2]; omega
    · unfold left; rw [a1, a2, if_neg hk']; split <;> omega
theorem Fine.onRule {t : List UInt8} {r0 r : Rd} {g : Nat} (h : Fine t r0 (g + 1) r) (hk : r.now.kind = 1) : Fine t r0 g (rule t r) ∧ left (rule t r) < left r := by
  have hk' : ¬ r.now.kind = 10 := by omega
  have he : lines t (g + 1) r = lines t g (rule t r) := by rw [lines, if_neg hk', if_neg (by omega), if_pos hk]
  by_cases h20 : r.rules.length = 20
  · rw [rule_full t r h20] at he ⊢
    exact h.onRefuse 3 hk' he
  · obtain ⟨a1, a2, a3⟩ := rule_more t r h20
    have := h.ev; have := h.ru; have := h.us
    refine ⟨⟨he.symm.trans h.eq, rule_ok h.ok, by rw [a2]; omega, by omega, by rw [a1, a2]; omega, ?_⟩, ?_⟩
    · rcases h.fu with h1 | h1
      · exact absurd h1 hk'
      · right; rw [a1, a2]; omega
    · unfold left; rw [a1, a2, if_neg hk']; split <;> omega
theorem Fine.onElse {t : List UInt8} {r0 r : Rd} {g : Nat} (h : Fine t r0 (g + 1) r) (hk : ¬ r.now.kind = 10) (h2 : ¬ r.now.kind = 2) (h1 : ¬ r.now.kind = 1) : Fine t r0 g (Dsr.refuse t r 2) ∧ left (Dsr.refuse t r 2) < left r :=
  h.onRefuse 2 hk (by rw [lines, if_neg hk, if_neg h2, if_neg h1])
theorem Fine.start (t : List UInt8) (_hz : t.length ≤ 400) : Fine t (newRd t) 32 (newRd t) :=
  ⟨rfl, scan_ok t 0 (Nat.zero_le _), by simp [newRd], by simp [newRd], by simp [newRd], .inr (by simp [newRd])⟩
end Dsr
namespace Dsr
def isDef (nm : List UInt8) (u : Us) : Bool := decide (u.as_ = 0) && (u.name == nm)
def isRole (ev : Nat) (nm : List UInt8) (u : Us) : Bool := decide (u.as_ = 1) && decide (u.event = ev) && (u.name == nm)
/-- Is a name wrong at its place? -/
def isWrong (u : Us) (before all : List Us) : Bool :=
  if u.as_ = 0 then before.any (isDef u.name) else if u.as_ = 1 then before.any (isRole u.event u.name) else !all.any (isDef u.name)
/-- The first of the uses from k on that is wrong; its place. -/
def wrongFrom (us : List Us) : Nat → Nat → Option Nat
  | 0, _ => none
  | f + 1, k => match us[k]? with
    | none => none
    | some u => if isWrong u (us.take k) us then some u.at_ else wrongFrom us f (k + 1)
def wrongName (us : List Us) : Option Nat := wrongFrom us us.length 0
theorem flatLen {α β : Type} (f : α → List β) (m : Nat) (hf : ∀ a, (f a).length = m) : ∀ us : List α, (us.flatMap f).length = us.length * m
  | [] => by simp
  | a :: us => by rw [List.flatMap_cons, List.length_append, hf, flatLen f m hf us, List.length_cons, Nat.succ_mul]; omega
theorem flat4 {α β : Type} (f : α → List β) (hf : ∀ a, (f a).length = 4) : ∀ (us : List α) (k : Nat) (u : α) (j : Nat), us[k]? = some u → j < 4 → (us.flatMap f)[k * 4 + j]? = (f u)[j]?
  | [], k, u, j, h, _ => by simp at h
  | a :: us, 0, u, j, h, hj => by
    have e : a = u := by simpa using h
    subst e
    rw [List.flatMap_cons, Nat.zero_mul, Nat.zero_add, List.getElem?_append_left (by rw [hf]; exact hj)]
  | a :: us, k + 1, u, j, h, hj => by
    have h' : us[k]? = some u := by simpa using h
    rw [List.flatMap_cons, List.getElem?_append_right (by rw [hf]; omega), hf]
    have e : (k + 1) * 4 + j - 4 = k * 4 + j := by omega
    rw [e]
    exact flat4 f hf us k u j h' hj
end Dsr
/- Lines and texts. -/
namespace Dsr
def ruLine (r : Rl) : List UInt8 := r.left ++ [32] ++ signs.getD r.kind [] ++ [32] ++ r.right ++ [59, 10]
def joinC (l : List (List UInt8)) : List UInt8 := [44, 32].intercalate l
def evLine (e : Ev) : List UInt8 :=
  [101, 118, 101, 110, 116, 32] ++ e.name ++ [32, 98, 121, 32] ++ joinC e.roles ++ (if e.inn then [] else [32, 111, 117, 116]) ++ (if e.due then [32, 100, 117, 101] else []) ++ (if e.done then [32, 100, 111, 110, 101] else []) ++ [59, 10]
def text (es : List Ev) (rs : List Rl) : List UInt8 := es.flatMap evLine ++ rs.flatMap ruLine
end Dsr
namespace Dsr
theorem flatM {α β : Type} (m : Nat) (f : α → List β) (hf : ∀ a, (f a).length = m) : ∀ (us : List α) (k : Nat) (u : α) (j : Nat), us[k]? = some u → j < m → (us.flatMap f)[k * m + j]? = (f u)[j]?
  | [], k, u, j, h, _ => by simp at h
  | a :: us, 0, u, j, h, hj => by
    have e : a = u := by simpa using h
    subst e
    rw [List.flatMap_cons, Nat.zero_mul, Nat.zero_add, List.getElem?_append_left (by rw [hf]; exact hj)]
  | a :: us, k + 1, u, j, h, hj => by
    have h' : us[k]? = some u := by simpa using h
    have e1 : (k + 1) * m + j = m + (k * m + j) := by rw [Nat.succ_mul]; omega
    rw [List.flatMap_cons, e1, List.getElem?_append_right (by rw [hf]; omega), hf, Nat.add_sub_cancel_left]
    exact flatM m f hf us k u j h' hj
theorem flat_snoc {α β : Type} (f : α → List β) (us : List α) (n : Nat) (u : α) (h : us[n]? = some u) : (us.take (n + 1)).flatMap f = (us.take n).flatMap f ++ f u := by
  have hn : n < us.length := (List.getElem?_eq_some_iff.1 h).1
  rw [List.take_succ_eq_append_getElem hn, List.flatMap_append]
  have : us[n] = u := (List.getElem?_eq_some_iff.1 h).2
  simp [this]
theorem flat_take_le {α : Type} (f : α → List UInt8) (us : List α) (n : Nat) : ((us.take n).flatMap f).length ≤ (us.flatMap f).length := by
  conv => rhs; rw [← List.take_append_drop n us]
  rw [List.flatMap_append, List.length_append]; omega
end Dsr
/- Comparing byte strings. -/
namespace Dsr
def cmpB : List UInt8 → List UInt8 → Int
  | [], [] => 0
  | [], _ :: _ => -1
  | _ :: _, [] => 1
  | a :: as, b :: bs => if a < b then -1 else if b < a then 1 else cmpB as bs
theorem u8_tri (a b : UInt8) : a < b ∨ a = b ∨ b < a := by
  rcases Nat.lt_trichotomy a.toNat b.toNat with h | h | h
  · exact .inl (UInt8.lt_iff_toNat_lt.2 h)
  · exact .inr (.inl (UInt8.toNat_inj.1 h))
  · exact .inr (.inr (UInt8.lt_iff_toNat_lt.2 h))
theorem u8_irr (a : UInt8) : ¬ a < a := fun h => Nat.lt_irrefl _ (UInt8.lt_iff_toNat_lt.1 h)
theorem u8_asym {a b : UInt8} (h : a < b) : ¬ b < a := fun h' => by have := UInt8.lt_iff_toNat_lt.1 h; have := UInt8.lt_iff_toNat_lt.1 h'; omega
theorem u8_trans {a b c : UInt8} (h : a < b) (h' : b < c) : a < c := UInt8.lt_iff_toNat_lt.2 (Nat.lt_trans (UInt8.lt_iff_toNat_lt.1 h) (UInt8.lt_iff_toNat_lt.1 h'))
theorem cmpB_refl : ∀ a, cmpB a a = 0
  | [] => rfl
  | a :: as => by rw [cmpB, if_neg (u8_irr a), if_neg (u8_irr a)]; exact cmpB_refl as
theorem cmpB_eq : ∀ {a b}, cmpB a b = 0 → a = b
  | [], [], _ => rfl
  | [], _ :: _, h => by simp [cmpB] at h
  | _ :: _, [], h => by simp [cmpB] at h
  | a :: as, b :: bs, h => by
    rcases u8_tri a b with h1 | h1 | h1
    · rw [cmpB, if_pos h1] at h; omega
    · subst h1
      rw [cmpB, if_neg (u8_irr a), if_neg (u8_irr a)] at h
      rw [cmpB_eq h]
    · rw [cmpB, if_neg (u8_asym h1), if_pos h1] at h; omega
theorem cmpB_swap : ∀ a b, cmpB b a = - cmpB a b
  | [], [] => rfl
  | [], _ :: _ => rfl
  | _ :: _, [] => rfl
  | a :: as, b :: bs => by
    rcases u8_tri a b with h1 | h1 | h1
    · rw [cmpB, cmpB, if_pos h1, if_neg (u8_asym h1), if_pos h1]; rfl
    · subst h1
      rw [cmpB, cmpB, if_neg (u8_irr a), if_neg (u8_irr a), if_neg (u8_irr a), if_neg (u8_irr a)]
      exact cmpB_swap as bs
    · rw [cmpB, cmpB, if_pos h1, if_neg (u8_asym h1), if_pos h1]
theorem cmpB_trans : ∀ a b c, cmpB a b < 0 → cmpB b c < 0 → cmpB a c < 0
  | [], [], _, h, _ => by simp [cmpB] at h
  | [], _ :: _, [], _, h => by simp [cmpB] at h
  | [], _ :: _, _ :: _, _, _ => by simp [cmpB]
  | _ :: _, [], _, h, _ => by simp [cmpB] at h
  | _ :: _, _ :: _, [], _, h => by simp [cmpB] at h
  | a :: as, b :: bs, c :: cs, h, h' => by
    rcases u8_tri a b with h1 | h1 | h1
    · rcases u8_tri b c with h2 | h2 | h2
      · rw [cmpB, if_pos (u8_trans h1 h2)]; decide
      · subst h2; rw [cmpB, if_pos h1]; decide
      · rw [cmpB, if_neg (u8_asym h2), if_pos h2] at h'; omega
    · subst h1
      rw [cmpB, if_neg (u8_irr a), if_neg (u8_irr a)] at h
      rcases u8_tri a c with h2 | h2 | h2
      · rw [cmpB, if_pos h2]; decide
      · subst h2
        rw [cmpB, if_neg (u8_irr a), if_neg (u8_irr a)] at h' ⊢
        exact cmpB_trans as bs cs h h'
      · rw [cmpB, if_neg (u8_asym h2), if_pos h2] at h'; omega
    · rw [cmpB, if_neg (u8_asym h1), if_pos h1] at h; omega
/-- 'not less' goes on. -/
theorem cmpB_ntrans (a b c : List UInt8) (h : ¬ cmpB a b < 0) (h' : ¬ cmpB b c < 0) : ¬ cmpB a c < 0 := by
  intro hc
  have e1 := cmpB_swap a b
  have e2 := cmpB_swap b c
  have e3 := cmpB_swap a c
  by_cases z1 : cmpB a b = 0
  · rw [cmpB_eq z1] at hc; exact h' hc
  · by_cases z2 : cmpB b c = 0
    · rw [← cmpB_eq z2] at hc; exact h hc
    · have := cmpB_trans c b a (by omega) (by omega)
      omega
end Dsr
/- Equal neighbours once. -/
namespace Dsr
section
variable {α : Type} (eq : α → α → Bool)
def compactFrom : α → List α → List α
  | _, [] => []
  | p, y :: l => if eq y p then compactFrom p l else y :: compactFrom y l
def compact : List α → List α
  | [] => []
  | x :: l => x :: compactFrom eq x l
end
section
variable {α : Type} {eq : α → α → Bool}
theorem compactFrom_snoc (he : ∀ x y, eq x y = true ↔ x = y) : ∀ (l : List α) (p x : α), compactFrom eq p (l ++ [x]) = if eq x ((p :: l).getLast (by simp)) then compactFrom eq p l else compactFrom eq p l ++ [x]
  | [], p, x => by
    simp only [List.nil_append, compactFrom, List.getLast_singleton]
    by_cases h : eq x p = true <;> simp [h]
  | y :: l, p, x => by
    have e : (p :: y :: l).getLast (by simp) = (y :: l).getLast (by simp) := List.getLast_cons_cons
    simp only [List.cons_append, compactFrom, e]
    split
    · rename_i h
      have hy : y = p := (he y p).1 h
      subst hy
      exact compactFrom_snoc he l y x
    · rw [compactFrom_snoc he l y x]
      split <;> rfl
theorem compact_step (he : ∀ x y, eq x y = true ↔ x = y) (rs : List α) (m : Nat) (h1 : 1 ≤ m) (x y : α) (hx : rs[m]? = some x) (hy : rs[m - 1]? = some y) :
    compact eq (rs.take (m + 1)) = if eq x y then compact eq (rs.take m) else compact eq (rs.take m) ++ [x] := by
  have hm : m < rs.length := (List.getElem?_eq_some_iff.1 hx).1
  rw [List.take_succ_eq_append_getElem hm]
  have ex : rs[m] = x := (List.getElem?_eq_some_iff.1 hx).2
  rw [ex]
  rcases hl : rs.take m with _ | ⟨p, l⟩
  · have := congrArg List.length hl
    simp at this
    rcases this with h | h
    · omega
    · simp [h] at hm
  · have e : (p :: l).getLast (by simp) = y := by
      have e1 : (p :: l).getLast? = some y := by
        rw [← hl, List.getLast?_take]
        rw [if_neg (by omega), hy]; rfl
      rw [List.getLast?_eq_some_getLast (by simp)] at e1
      exact Option.some.inj e1
    rw [List.cons_append, compact, compact, compactFrom_snoc he, e]
    split <;> rfl
end
end Dsr
/- A case, as a function of its calls: no program in it. -/
set_option linter.unusedVariables false
set_option linter.unusedSimpArgs false
namespace Dsr
/-- Has the graph this rule? -/
def hasRl (rs : List Rl) (k : Nat) (a b : List UInt8) : Bool := rs.any fun r => decide (r.kind = k) && (r.left == a) && (r.right == b)
/-- What a rule of a kind does to its right event. -/
def eff (k : Nat) (e : Ev) : Ev :=
  { e with inn := if k = 3 then true else if k = 4 then false else e.inn, due := if k = 2 then true else e.due }
def finish (e : Ev) : Ev := { e with done := true, due := false }
def modN (f : Ev → Ev) (n : List UInt8) (es : List Ev) : List Ev := es.map fun e => if e.name == n then f e else e
def followS (a : List UInt8) (k : Nat) (es : List Ev) (r : Rl) : List Ev := if (r.left == a) && decide (r.kind = k) then modN (eff k) r.right es else es
def follow (rs : List Rl) (a : List UInt8) (k : Nat) (es : List Ev) : List Ev := rs.foldl (followS a k) es
def doP (rs : List Rl) (a : List UInt8) (es : List Ev) : List Ev := follow rs a 2 (follow rs a 3 (follow rs a 4 (modN finish a es)))
/-- How an event stands behind another one that is done. -/
def doneE (rs : List Rl) (a : List UInt8) (e : Ev) : Ev :=
  { e with done := e.done || (e.name == a), inn := hasRl rs 3 a e.name || (e.inn && !hasRl rs 4 a e.name), due := (e.due && !(e.name == a)) || hasRl rs 2 a e.name }
theorem eff_name (k : Nat) (e : Ev) : (eff k e).name = e.name := rfl
theorem eff_roles (k : Nat) (e : Ev) : (eff k e).roles = e.roles := rfl
theorem eff_eff (k : Nat) (e : Ev) : eff k (eff k e) = eff k e := by
  unfold eff
  by_cases h3 : k = 3
  · subst h3; simp
  · by_cases h4 : k = 4
    · subst h4; simp
    · by_cases h2 : k = 2 <;> simp [h2, h3, h4]
theorem modN_eff (k : Nat) (n : List UInt8) (es : List Ev) : modN (eff k) n es = es.map fun e => if e.name == n then eff k e else e := rfl
theorem follow_map (a : List UInt8) (k : Nat) : ∀ (rs : List Rl) (es : List Ev), follow rs a k es = es.map fun e => if hasRl rs k a e.name then eff k e else e
  | [], es => by simp [follow, hasRl]
  | r :: rs, es => by
    show follow rs a k (followS a k es r) = _
    rw [follow_map a k rs]
    unfold followS
    by_cases h : ((r.left == a) && decide (r.kind = k)) = true
    · rw [if_pos h]
      unfold modN
      rw [List.map_map]
      refine List.map_congr_left fun e _ => ?_
      have h1 : (r.left == a) = true := (Bool.and_eq_true _ _ ▸ h).1
      have h2 : decide (r.kind = k) = true := (Bool.and_eq_true _ _ ▸ h).2
      have hh : hasRl (r :: rs) k a e.name = ((r.right == e.name) || hasRl rs k a e.name) := by
        simp [hasRl, h1, h2]
      rw [hh]
      show (if hasRl rs k a (if e.name == r.right then eff k e else e).name then eff k (if e.name == r.right then eff k e else e) else (if e.name == r.right then eff k e else e)) = _
      by_cases hn : e.name = r.right
      · have x1 : (e.name == r.right) = true := by simp [hn]
        have x2 : (r.right == e.name) = true := by simp [hn]
        rw [x1, x2]
        simp only [if_true, Bool.true_or, eff_eff, eff_name]
        split <;> rfl
      · have x1 : (e.name == r.right) = false := by simp [hn]
        have x2 : (r.right == e.name) = false := by simp; exact fun h => hn h.symm
        rw [x1, x2]
        simp
    · rw [if_neg h]
      refine List.map_congr_left fun e _ => ?_
      have hh : hasRl (r :: rs) k a e.name = hasRl rs k a e.name := by
        unfold hasRl
        rw [List.any_cons]
        have : (decide (r.kind = k) && (r.left == a) && (r.right == e.name)) = false := by
          cases h1 : (r.left == a) <;> cases h2 : decide (r.kind = k) <;> simp_all
        rw [this, Bool.false_or]
      rw [hh]
theorem doP_map (rs : List Rl) (a : List UInt8) (es : List Ev) : doP rs a es = es.map (doneE rs a) := by
  unfold doP
  rw [follow_map, follow_map, follow_map]
  unfold modN
  rw [List.map_map, List.map_map, List.map_map]
  refine List.map_congr_left fun e _ => ?_
  obtain ⟨nm, ro, dn, i, du⟩ := e
  simp only [Function.comp]
  by_cases hn : nm == a
  · simp only [hn, if_true, finish]
    unfold doneE
    simp only [hn]
    cases h4 : hasRl rs 4 a nm <;> cases h3 : hasRl rs 3 a nm <;> cases h2 : hasRl rs 2 a nm <;> simp [h4, h3, h2, eff]
  · have hn' : (nm == a) = false := by simpa using hn
    simp only [hn', if_false, finish]
    unfold doneE
    simp only [hn']
    cases h4 : hasRl rs 4 a nm <;> cases h3 : hasRl rs 3 a nm <;> cases h2 : hasRl rs 2 a nm <;> simp [h4, h3, h2, eff]
/-- The events by name. -/
def findE (es : List Ev) (n : List UInt8) : Option Ev := es.find? fun e => e.name == n
/-- Does a rule block its right event, as the left one stands? -/
def hinders (k : Nat) (e : Ev) : Bool := if k = 0 then e.inn && !e.done else if k = 1 then e.inn && e.due else false
def blocksR (es : List Ev) (r : Rl) : Bool := match findE es r.left with
  | some e => hinders r.kind e
  | none => false
def blockedP (es : List Ev) (rs : List Rl) (n : List UInt8) : Bool := rs.any fun r => (r.right == n) && blocksR es r
def verdictP (es : List Ev) (rs : List Rl) (role n : List UInt8) : Nat := match findE es n with
  | none => 1
  | some e => if e.roles.contains role = false then 2 else if e.inn = false then 3 else if blockedP es rs n then 4 else 0
theorem verdictP_le (es : List Ev) (rs : List Rl) (role n : List UInt8) : verdictP es rs role n ≤ 4 := by
  unfold verdictP
  split
  · omega
  · split
    · omega
    · split
      · omega
      · split <;> omega
def enabledP (es : List Ev) (rs : List Rl) (role : List UInt8) : List (List UInt8) := (es.filter fun e => decide (verdictP es rs role e.name = 0)).map (·.name)
def acceptingP (es : List Ev) : Bool := !es.any fun e => e.inn && e.due
/-- Bytes: numbers, hashes, records. -/
def hstep (h : Nat) (c : UInt8) : Nat := (h * 1000003 + c.toNat + 1) % 4294967296
def hash (bs : List UInt8) : Nat := bs.foldl hstep 7
theorem hash_lt (bs : List UInt8) : hash bs < 4294967296 := by
  unfold hash
  rcases List.eq_nil_or_concat bs with rfl | ⟨l, c, rfl⟩
  · decide
  · rw [List.concat_eq_append, List.foldl_append]; exact Nat.mod_lt _ (by decide)
def byte (n : Nat) : UInt8 := UInt8.ofNat n
def four (n : Nat) : List UInt8 := [byte (n / 16777216), byte (n / 65536), byte (n / 256), byte n]
def sealed (b : List UInt8) : List UInt8 := b ++ four (hash b)
def headOf (t : List UInt8) : List UInt8 := [68, 49, byte (t.length / 256), byte t.length] ++ t
def recOf (num h : Nat) (role ev : List UInt8) (v : Nat) : List UInt8 := [82] ++ four num ++ four h ++ [byte role.length] ++ role ++ [byte ev.length] ++ ev ++ [byte v]
theorem sealed_len (b : List UInt8) : (sealed b).length = b.length + 4 := by simp [sealed, four]
theorem recOf_len (num h : Nat) (role ev : List UInt8) (v : Nat) : (recOf num h role ev v).length = 12 + role.length + ev.length := by simp [recOf, four]; omega
theorem headOf_len (t : List UInt8) : (headOf t).length = 4 + t.length := by simp [headOf]; omega
/-- What waits to be settled. -/
structure Wt where
  ev : List UInt8
  verdict : Nat
  num : Nat
  len : Nat
  hash : Nat
/-- A case. -/
structure Cs where
  es : List Ev
  rs : List Rl
  num : Nat
  len : Nat
  hash : Nat
  wait : Option Wt
def newCs (es : List Ev) (rs : List Rl) : Cs := ⟨es, rs, 0, (sealed (headOf (text es rs))).length, hash (headOf (text es rs)), none⟩
def recP (c : Cs) (role ev : List UInt8) : List UInt8 := recOf (c.num + 1) c.hash role ev (verdictP c.es c.rs role ev)
/-- Ask: the verdict, the bytes, the error, the case. -/
def askP (c : Cs) (role ev : List UInt8) : Nat × List UInt8 × Nat × Cs :=
  if c.wait.isSome then (0, [], 5, c)
  else if 8 < role.length ∨ 8 < ev.length then (0, [], 1, c)
  else if 2000 < c.len + (sealed (recP c role ev)).length then (0, [], 7, c)
  else (verdictP c.es c.rs role ev, sealed (recP c role ev), 0, { c with wait := some ⟨ev, verdictP c.es c.rs role ev, c.num + 1, c.len + (sealed (recP c role ev)).length, hash (recP c role ev)⟩ })
def settleP (c : Cs) : Nat × Cs := match c.wait with
  | none => (6, c)
  | some q => (0, { c with es := if q.verdict = 0 then doP c.rs q.ev c.es else c.es, num := q.num, len := q.len, hash := q.hash, wait := none })
end Dsr
