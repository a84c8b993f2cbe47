import Derived.Test.YtjmcokcdaddpcaaGreatDoorTxD
import Derived.Deep.RegionHeld3
set_option linter.unusedVariables false
set_option linter.unusedSimpArgs false
namespace Go.Proofs.YtjmcokcdaddpcaaGreatDoor
open Go.RowKit
def cmpNat (x y : Nat) : Int := if x < y then -1 else if y < x then 1 else 0
set_option maxRecDepth 100000 in
set_option maxHeartbeats 1600000 in
theorem cCompare_any (x y : Nat) (w : World) : Calls Tryz.prog 158 #[.int .u8 x, .int .u8 y] w fun e w' => e = .returned (.int .i64 (cmpNat x y)) ∧ w' = w := by
  rcases Nat.lt_trichotomy x y with h | h | h
  · have h1 : (x : Int) < y := by omega
    have h2 : cmpNat x y = -1 := by simp [cmpNat, h]
    have H2 : Hid (cmpNat x y = -1) := h2
    clear h2
    go_enter Tryz.func158, Tryz.ntmps158
    go_wp2
    go_ret
    exact ⟨by rw [H2.out]; rfl, rfl⟩
  · subst h
    have h2 : cmpNat x x = 0 := by simp [cmpNat]
    have H2 : Hid (cmpNat x x = 0) := h2
    clear h2
    go_enter Tryz.func158, Tryz.ntmps158
    go_wp2
    go_ret
    exact ⟨by rw [H2.out]; rfl, rfl⟩
  · have h1 : (y : Int) < x := by omega
    have h2 : cmpNat x y = 1 := by simp [cmpNat]; omega
    have H2 : Hid (cmpNat x y = 1) := h2
    clear h2
    go_enter Tryz.func158, Tryz.ntmps158
    go_wp2
    go_ret
    exact ⟨by rw [H2.out]; rfl, rfl⟩
def or3 (a b c : Int) : Int := if a ≠ 0 then a else if b ≠ 0 then b else c
set_option maxRecDepth 100000 in
set_option maxHeartbeats 1600000 in
theorem cOr_any (a b c : Int) (g k : Nat) (w : World) (c0 : w.cell? ⟨g, 0, none⟩ = some (.int .i64 a)) (c1 : w.cell? ⟨g, 1, none⟩ = some (.int .i64 b)) (c2 : w.cell? ⟨g, 2, none⟩ = some (.int .i64 c)) :
    Calls Tryz.prog 157 #[.slice (some ⟨g, 0, none⟩) 3 k] w fun e w' => e = .returned (.int .i64 (or3 a b c)) ∧ w' = w := by
  by_cases ha : a = 0
  · have ha' : (a != 0) = false := by simp [ha]
    by_cases hb : b = 0
    · have hb' : (b != 0) = false := by simp [hb]
      by_cases hc : c = 0
      · have hc' : (c != 0) = false := by simp [hc]
        have H : Hid (or3 a b c = 0) := by show _ = _; simp [or3, ha, hb, hc]
        clear ha hb hc
        go_enter Tryz.func157, Tryz.ntmps157
        go_wp2_with fail
        refine wp_loop_rounds 4 ?_
        rw [rounds_succ]; go_wp2_with fail
        rw [rounds_succ]; go_wp2_with fail
        rw [rounds_succ]; go_wp2_with fail
        rw [rounds_succ]; go_wp2_with fail
        go_ret
        exact ⟨by rw [H.out]; rfl, rfl⟩
      · have hc' : (c != 0) = true := by simp [hc]
        have H : Hid (or3 a b c = c) := by show _ = _; simp [or3, ha, hb]
        clear ha hb hc
        go_enter Tryz.func157, Tryz.ntmps157
        go_wp2_with fail
        refine wp_loop_rounds 4 ?_
        rw [rounds_succ]; go_wp2_with fail
        rw [rounds_succ]; go_wp2_with fail
        rw [rounds_succ]; go_wp2_with fail
        go_ret
        exact ⟨by rw [H.out]; rfl, rfl⟩
    · have hb' : (b != 0) = true := by simp [hb]
      have H : Hid (or3 a b c = b) := by show _ = _; simp [or3, ha, hb]
      clear ha hb
      go_enter Tryz.func157, Tryz.ntmps157
      go_wp2_with fail
      refine wp_loop_rounds 4 ?_
      rw [rounds_succ]; go_wp2_with fail
      rw [rounds_succ]; go_wp2_with fail
      go_ret
      exact ⟨by rw [H.out]; rfl, rfl⟩
  · have ha' : (a != 0) = true := by simp [ha]
    have H : Hid (or3 a b c = a) := by show _ = _; simp [or3, ha]
    clear ha
    go_enter Tryz.func157, Tryz.ntmps157
    go_wp2_with fail
    refine wp_loop_rounds 4 ?_
    rw [rounds_succ]; go_wp2_with fail
    go_ret
    exact ⟨by rw [H.out]; rfl, rfl⟩
end Go.Proofs.YtjmcokcdaddpcaaGreatDoor
namespace Go.Proofs.YtjmcokcdaddpcaaGreatDoor
open Go.RowKit
def cmpS (a b : List UInt8) : Int := Lib.compareBytes a b
theorem sCompare_any (a b : List UInt8) (w : World) : Calls Tryz.prog 105 #[strV a, strV b] w fun e w' => e = .returned (.int .i64 (cmpS a b)) ∧ w' = w := by
  have h := Tryz.strings_Compare ⟨a.toArray⟩ ⟨b.toArray⟩ w
  exact h
def cmpRl (a b : Dsr.Rl) : Int := or3 (cmpS a.left b.left) (cmpS a.right b.right) (cmpNat a.kind b.kind)
set_option maxRecDepth 100000 in
set_option maxHeartbeats 3200000 in
theorem byName_any (a b : Dsr.Ev) (va vb : Value) (ha : ∃ p n c, va = .slice p n c) (hb : ∃ p n c, vb = .slice p n c) (w : World) :
    Calls Tryz.prog 104 #[.agg #[strV a.name, va, .bool a.done, .bool a.inn, .bool a.due], .agg #[strV b.name, vb, .bool b.done, .bool b.inn, .bool b.due]] w fun e w' => e = .returned (.int .i64 (cmpS a.name b.name)) ∧ w' = (w.alloc (.cells #[strV a.name, va, .bool a.done, .bool a.inn, .bool a.due] 144)).alloc (.cells #[strV b.name, vb, .bool b.done, .bool b.inn, .bool b.due] 144) := by
  obtain ⟨p, n, c, rfl⟩ := ha
  obtain ⟨p', n', c', rfl⟩ := hb
  go_enter Tryz.func104, Tryz.ntmps104
  go_wp2_with (go_at_call 105; refine (sCompare_any _ _ _).mono ?_; rintro e w' ⟨rfl, rfl⟩)
  go_ret
  exact ⟨rfl, rfl⟩
theorem cOr_at (a b c : Int) (w : World) (o o' : Obj) (T : TypeId) :
    Calls Tryz.prog 157 #[.slice (some ⟨w.heap.size + 1 + 1, 0, none⟩) 3 3] (((w.alloc o).alloc o').alloc (.cells #[.int .i64 a, .int .i64 b, .int .i64 c] T)).drew fun e w' => e = .returned (.int .i64 (or3 a b c)) ∧ w' = (((w.alloc o).alloc o').alloc (.cells #[.int .i64 a, .int .i64 b, .int .i64 c] T)).drew := by
  have h : (((w.alloc o).alloc o').alloc (.cells #[.int .i64 a, .int .i64 b, .int .i64 c] T)).drew.heap[w.heap.size + 1 + 1]? = some (.cells #[.int .i64 a, .int .i64 b, .int .i64 c] T (0, 0)) := by
    have e : ((w.alloc o).alloc o').heap.size = w.heap.size + 1 + 1 := by simp
    have h := heap_alloc_new ((w.alloc o).alloc o') (.cells #[.int .i64 a, .int .i64 b, .int .i64 c] T)
    rw [e] at h; exact h
  obtain ⟨c0, c1, c2, _⟩ := cells3 h
  exact cOr_any a b c _ 3 _ c0 c1 c2
theorem grow3 (w : World) (o o' o'' : Obj) : (((w.alloc o).alloc o').alloc o'').drew = Sort.grow (w.drewN 1) #[o, o', o''] := by
  have e : (((w.heap.push o).push o').push o'') = w.heap ++ #[o, o', o''] := by apply Array.ext'; simp
  show ({ w with heap := ((w.heap.push o).push o').push o'', drawn := w.drawn + 1 } : World) = { w with heap := w.heap ++ #[o, o', o''], drawn := w.drawn + 1 }
  rw [e]
set_option maxRecDepth 100000 in
set_option maxHeartbeats 3200000 in
theorem compareRules_any (a b : Dsr.Rl) (w : World) :
    Calls Tryz.prog 108 #[.agg #[strV a.left, strV a.right, .int .u8 a.kind], .agg #[strV b.left, strV b.right, .int .u8 b.kind]] w fun e w' => e = .returned (.int .i64 (cmpRl a b)) ∧ ∃ q os, w' = Sort.grow (w.drewN q) os := by
  go_enter Tryz.func108, Tryz.ntmps108
  go_wp2_with fail
  go_region_held3 (fun w' => w'.cell? ⟨w.heap.size, 0, none⟩ = some (strV a.left) ∧ w'.cell? ⟨w.heap.size, 1, none⟩ = some (strV a.right) ∧ w'.cell? ⟨w.heap.size, 2, none⟩ = some (.int .u8 a.kind) ∧ w'.cell? ⟨w.heap.size + 1, 0, none⟩ = some (strV b.left) ∧ w'.cell? ⟨w.heap.size + 1, 1, none⟩ = some (strV b.right) ∧ w'.cell? ⟨w.heap.size + 1, 2, none⟩ = some (.int .u8 b.kind)) (go_keep)
    (first
      | (go_at_call 105; refine (sCompare_any _ _ _).mono ?_; rintro e w' ⟨rfl, rfl⟩)
      | (go_at_call 158; refine (cCompare_any _ _ _).mono ?_; rintro e w' ⟨rfl, rfl⟩)
      | (go_at_call 157; refine (cOr_at (cmpS a.left b.left) (cmpS a.right b.right) (cmpNat a.kind b.kind) _ _ _ _).mono ?_; rintro e w' ⟨rfl, rfl⟩))
  all_goals
    go_wp2_with fail
    go_ret
    refine ⟨rfl, 1, #[.cells #[strV a.left, strV a.right, .int .u8 a.kind] 150, .cells #[strV b.left, strV b.right, .int .u8 b.kind] 150, .cells #[.int .i64 (cmpS a.left b.left), .int .i64 (cmpS a.right b.right), .int .i64 (cmpNat a.kind b.kind)] 3], ?_⟩
    exact grow3 w _ _ _
end Go.Proofs.YtjmcokcdaddpcaaGreatDoor
