import Derived.Test.YtjmcokcdaddpcaaGreatDoorMem2
import Derived.KernelRfl
import Derived.Deep.QuietTactic
import Derived.BigQuiet
import Derived.Deep.RegionWith
import Derived.Test.YtjmcokcdaddpcaaGreatDoorSpP
set_option linter.unusedVariables false
set_option linter.unusedSimpArgs false
namespace Go.Proofs.YtjmcokcdaddpcaaGreatDoor
open Go.RowKit
/-- pick: a raw number folded. -/
def pickN (c : Int) (n : Int) : Int := (if c < 0 then -(c + 1) else c) % n
set_option maxHeartbeats 800000 in
theorem kpick_any (c n : Int) (w : World) (h0 : -9223372036854775808 ≤ c) (h1 : c ≤ 9223372036854775807) (hn : 1 ≤ n) (hn' : n ≤ 1000) :
    Calls Tryz.prog 19 #[.int .i64 c, .int .i64 n] w fun e w' => e = .returned (.int .i64 (pickN c n)) ∧ w' = w := by
  have hn0 : (n == 0) = false := by simp; omega
  by_cases hc : c < 0
  · have hE : pickN c n = (-(c + 1)) % n := by unfold pickN; rw [if_pos hc]
    have HE : Hid (pickN c n = (-(c + 1)) % n) := hE
    clear hE
    go_enter Tryz.func19, Tryz.ntmps19
    go_wp2
    go_ret
    refine ⟨ret_int ?_, rfl⟩
    rw [HE.out]
    have h2 : ((-(c + 1)).tmod n) = (-(c + 1)) % n := Int.tmod_eq_emod_of_nonneg (by omega)
    rw [← Int.neg_tmod]; exact h2
  · have hE : pickN c n = c % n := by unfold pickN; rw [if_neg hc]
    have HE : Hid (pickN c n = c % n) := hE
    clear hE
    go_enter Tryz.func19, Tryz.ntmps19
    go_wp2
    go_ret
    exact ⟨ret_int HE.out.symm, rfl⟩
set_option maxHeartbeats 800000 in
theorem kletter_any (c : UInt8) (l : List UInt8) (w : World) : Calls Tryz.prog 52 #[.string ⟨(c :: l).toArray⟩] w fun e w' => e = .returned (.bool (Dsr.letter c)) ∧ w' = w := by
  go_enter Tryz.func52, Tryz.ntmps52
  have h0 : (ByteArray.mk (c :: l).toArray)[0]'(by simp [ByteArray.size]) = c := rfl
  by_cases h1 : 97 ≤ c.toNat
  · have h2 : (97 : Int) ≤ (c.toNat : Int) := by omega
    have HE : Hid (Dsr.letter c = decide ((c.toNat : Int) ≤ 122)) := by
      show _ = _
      unfold Dsr.letter
      rw [Bool.eq_iff_iff]; simp; omega
    go_wp2
    all_goals
      go_ret
      exact ⟨ret_bool HE.out.symm, rfl⟩
  · have h2 : (c.toNat : Int) < 97 := by omega
    have HE : Hid (Dsr.letter c = false) := by
      show _ = _
      unfold Dsr.letter
      simp [h1]
    go_wp2
    all_goals
      go_ret
      exact ⟨ret_bool HE.out.symm, rfl⟩
/-- A slice of whole numbers that can be read. -/
def RawIs (w : World) (v : Value) (zs : List Int) : Prop :=
  (v = .slice none 0 0 ∧ zs = []) ∨ ∃ (a : Addr) (cap : Nat), v = .slice (some a) zs.length cap ∧ zs.length ≤ maxLen ∧ (∀ i, i < zs.length → w.cell? (a.add i) = some (.int .i64 (zs.getD i 0))) ∧ ∀ z ∈ zs, (Lit.int .i64 z).wf = true
/-- The blanks of a raw number. -/
def gapL (k : Int) : List UInt8 := (if k < 3 then [] else if k % 3 = 0 then [32] else if k % 3 = 1 then [9] else [10]) ++ (if k < 6 then [] else [32])
def gapN (zs : List Int) (n : Nat) : List UInt8 := if zs.length = 0 then [] else gapL (pickN (IntKind.i64.wrap (zs.getD (n % zs.length) 0 + (n / zs.length : Nat))) 9)
theorem pickN_lt (c : Int) : 0 ≤ pickN c 9 ∧ pickN c 9 < 9 := by unfold pickN; split <;> omega
set_option maxHeartbeats 1600000 in
theorem kgap_any (w : World) (v : Value) (zs : List Int) (n : Nat) (hn : n ≤ 100) (h : RawIs w v zs) :
    Calls Tryz.prog 51 #[v, .int .i64 n] w fun e w' => e = .returned (strV (gapN zs n)) ∧ ∃ m, w' = w.drewN m := by
  rcases h with ⟨rfl, rfl⟩ | ⟨a, cap, rfl, hm, hc, hw⟩
  · go_enter Tryz.func51, Tryz.ntmps51
    go_wp2
    go_ret
    exact ⟨rfl, 0, rfl⟩
  · by_cases h0 : zs.length = 0
    · have : zs = [] := List.eq_nil_of_length_eq_zero h0
      subst this
      go_enter Tryz.func51, Tryz.ntmps51
      go_wp2
      go_ret
      exact ⟨rfl, 0, rfl⟩
    · have hq : n % zs.length < zs.length := Nat.mod_lt _ (by omega)
      have hcq := hc _ hq
      have hb0 : ((zs.length : Int) == 0) = false := beq_eq_false_iff_ne.2 (by omega)
      have hmod : ((n : Int).tmod (zs.length : Int)) = ((n % zs.length : Nat) : Int) := by rw [Int.tmod_eq_emod_of_nonneg (Int.natCast_nonneg _)]; rfl
      have hdiv : ((n : Int).tdiv (zs.length : Int)) = ((n / zs.length : Nat) : Int) := by rw [Int.tdiv_eq_ediv_of_nonneg (Int.natCast_nonneg _)]; rfl
      have hdl : n / zs.length ≤ n := Nat.div_le_self _ _
      have HE : Hid (gapN zs n = gapL (pickN (IntKind.i64.wrap (zs.getD (n % zs.length) 0 + (n / zs.length : Nat))) 9)) := by show _ = _; unfold gapN; rw [if_neg h0]
      generalize hz : zs.getD (n % zs.length) 0 = z at *
      generalize n / zs.length = d at *
      generalize n % zs.length = m at *
      have hwz : (Lit.int .i64 z).wf = true := by
        subst hz
        exact hw _ (by rw [List.getD, List.getElem?_eq_getElem hq]; exact List.getElem_mem _)
      have hmI : (m : Int) < (zs.length : Int) := by omega
      have hwd : IntKind.i64.wrap (d : Int) = (d : Int) := by
        simp [IntKind.wrap, IntKind.bits, IntKind.signed]; omega
      have hx : -9223372036854775808 ≤ IntKind.i64.wrap (z + d) ∧ IntKind.i64.wrap (z + d) ≤ 9223372036854775807 := by
        simp only [IntKind.wrap, IntKind.bits, IntKind.signed]; simp; omega
      clear hz hc hw hwz
      have hX : ∃ X, IntKind.i64.wrap (z + d) = X := ⟨_, rfl⟩
      obtain ⟨X, hX⟩ := hX
      rw [hX] at HE hx
      have hp := pickN_lt X
      have HK : Hid (-9223372036854775808 ≤ X ∧ X ≤ 9223372036854775807) := hx
      clear hx
      have hpk : ∃ K, pickN X 9 = K := ⟨_, rfl⟩
      obtain ⟨K, hpk⟩ := hpk
      have HC : Hid (∀ W : World, Calls Tryz.prog 19 #[.int .i64 X, .int .i64 9] W fun e w' => e = .returned (.int .i64 K) ∧ w' = W) := fun W => by
        rw [← hpk]
        exact kpick_any X 9 W HK.out.1 HK.out.2 (by decide) (by decide)
      rw [hpk] at HE hp
      clear hpk
      go_enter Tryz.func51, Tryz.ntmps51
      go_wp2_with fail
      go_quiet (first | (go_at_call 19; exact Calls.quiet_of_same (HC.out _)) | exact Calls.quiet_of_same (HC.out _))
      have hcs : K = 0 ∨ K = 1 ∨ K = 2 ∨ K = 3 ∨ K = 4 ∨ K = 5 ∨ K = 6 ∨ K = 7 ∨ K = 8 := by omega
      clear hp
      rcases hcs with rfl | rfl | rfl | rfl | rfl | rfl | rfl | rfl | rfl
      all_goals
        go_wp2_with fail
        go_ret
        refine ⟨?_, _, rfl⟩
        rw [HE.out]
        rfl
end Go.Proofs.YtjmcokcdaddpcaaGreatDoor
namespace Go.Proofs.YtjmcokcdaddpcaaGreatDoor
open Go.RowKit
/-- The lines lie in memory, from a block on. -/
structure LinesAt (b : Nat) (w : World) : Prop where
  outer : ∀ j, j < 7 → w.cell? ⟨b + 7, j, none⟩ = some (.slice (some ⟨b + j, 0, none⟩) (Dsr.lineAt j).length (Dsr.lineAt j).length)
  inner : ∀ j k, j < 7 → k < (Dsr.lineAt j).length → w.cell? ⟨b + j, k, none⟩ = some (strV (Dsr.tokAt j k))
def allocAll : List Obj → World → World
  | [], w => w
  | o :: l, w => allocAll l (w.alloc o)
theorem allocAll_old : ∀ (l : List Obj) (w : World) (b : Nat), b < w.heap.size → (allocAll l w).heap[b]? = w.heap[b]?
  | [], w, b, _ => rfl
  | o :: l, w, b, h => (allocAll_old l (w.alloc o) b (by simp; omega)).trans (Below.heap_alloc _ _ _ h)
theorem allocAll_at : ∀ (l : List Obj) (w : World) (i : Nat) (o : Obj), l[i]? = some o → (allocAll l w).heap[w.heap.size + i]? = some o
  | [], w, i, o, h => by simp at h
  | x :: l, w, 0, o, h => by
    cases h
    exact (allocAll_old l (w.alloc x) w.heap.size (by simp)).trans (heap_alloc_new _ _)
  | x :: l, w, i + 1, o, h => by
    have := allocAll_at l (w.alloc x) i o h
    have e : (w.alloc x).heap.size + i = w.heap.size + (i + 1) := by simp; omega
    rw [e] at this
    exact this
theorem allocAll_below : ∀ (l : List Obj) (w a : World) (B : Nat), Below B a w → B ≤ w.heap.size → Below B a (allocAll l w)
  | [], _, _, _, h, _ => h
  | o :: l, w, a, B, h, hB => allocAll_below l (w.alloc o) a B (h.alloc hB _) (by simp; omega)
theorem linesAt_of {b : Nat} {w : World} {T U : TypeId} (h7 : w.heap[b + 7]? = some (.cells ((List.range 7).map fun j => Value.slice (some ⟨b + j, 0, none⟩) (Dsr.lineAt j).length (Dsr.lineAt j).length).toArray T (0, 0)))
    (h : ∀ j, j < 7 → w.heap[b + j]? = some (.cells ((Dsr.lineAt j).map strV).toArray U (0, 0))) : LinesAt b w := by
  constructor
  · intro j hj
    simp only [World.cell?, h7]
    simp [hj]
  · intro j k hj hk
    simp only [World.cell?, h j hj]
    simp [hk, Dsr.tokAt]
set_option maxRecDepth 100000 in
set_option maxHeartbeats 3200000 in
theorem klines_any (w : World) :
    Calls Tryz.prog 50 #[] w fun e w' => e = .returned (.slice (some ⟨w.heap.size + 7, 0, none⟩) 7 7) ∧ LinesAt w.heap.size w' ∧ Below w.heap.size w w' := by
  go_enter Tryz.func50, Tryz.ntmps50
  go_wp2_with fail
  go_ret
  have hA : ∀ w' : World, w' = allocAll ((List.range 7).map (fun j => Obj.cells ((Dsr.lineAt j).map strV).toArray 9) ++ [Obj.cells ((List.range 7).map fun j => Value.slice (some ⟨w.heap.size + j, 0, none⟩) (Dsr.lineAt j).length (Dsr.lineAt j).length).toArray 22]) w → LinesAt w.heap.size w' ∧ Below w.heap.size w w' := by
    rintro w' rfl
    refine ⟨linesAt_of (T := 22) (U := 9) (allocAll_at _ _ 7 _ rfl) (fun j hj => allocAll_at _ _ j _ ?_), allocAll_below _ _ _ _ (Below.refl _ _) (Nat.le_refl _)⟩
    rw [List.getElem?_append_left (by simpa using hj)]
    simp [hj]
  refine ⟨rfl, hA _ rfl⟩
end Go.Proofs.YtjmcokcdaddpcaaGreatDoor
