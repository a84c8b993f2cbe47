import Derived.Test.YtjmcokcdaddpcaaGreatDoorSoB
import Derived.Test.YtjmcokcdaddpcaaGreatDoorUa
import Derived.Shelf.SlicesE.Kit
import Derived.Laws.IdiomCopy
set_option linter.unusedVariables false
set_option linter.unusedSimpArgs false
namespace Go.Proofs.YtjmcokcdaddpcaaGreatDoor
open Go.RowKit
abbrev rlV (r : Dsr.Rl) : Value := .agg #[strV r.left, strV r.right, .int .u8 r.kind]
def eqRl (x y : Dsr.Rl) : Bool := x.left == y.left && x.right == y.right && x.kind == y.kind
theorem eqRl_iff (x y : Dsr.Rl) : eqRl x y = true ↔ x = y := by
  obtain ⟨a, b, c⟩ := x
  obtain ⟨a', b', c'⟩ := y
  simp [eqRl]
  exact and_assoc
theorem eq_run (x y : Dsr.Rl) (w : World) : (binOp .eql 150 (rlV x) (rlV y)).run Tryz.prog w = .ok (.bool (eqRl x y)) w := by
  have u9 := Tryz.underlying9
  have a9 := Tryz.isAgg9
  have z9 := Tryz.sizeOf9
  have u58 := Tryz.underlying133
  have a58 := Tryz.isAgg133
  have z58 := Tryz.sizeOf133
  have hS : Tryz.prog.underlying 150 = some (.struct (Tryz.prog.fieldsOf 150)) := by kernel_rfl
  have hp : Tryz.prog.stoodInHeld 150 = false := by kernel_rfl
  rw [run_eql_struct, show (10000 : Nat) = 9999 + 1 from rfl, run_equalIn_agg w 9999 150 _ _ hS hp]
  simp only [Program.fieldsOf, Tryz.underlying150]
  go_simp
  by_cases h1 : x.left = y.left <;> by_cases h2 : x.right = y.right <;> by_cases h3 : x.kind = y.kind <;> (have h4 : ((x.kind : Int) = (y.kind : Int)) = (x.kind = y.kind) := propext (by omega)) <;> simp [eqRl, h1, h2, h3, h4]
theorem neq_run (x y : Dsr.Rl) (w : World) : (binOp .neq 150 (rlV x) (rlV y)).run Tryz.prog w = .ok (.bool (!eqRl x y)) w := by
  have h := eq_run x y w
  have e : ∀ v, (binOp .eql 150 (rlV x) (rlV y)).run Tryz.prog w = .ok (.bool v) w → (binOp .neq 150 (rlV x) (rlV y)).run Tryz.prog w = .ok (.bool (!v)) w := by
    intro v hv
    simp only [binOp] at hv ⊢
    revert hv
    generalize (Op.equal 150 (rlV x) (rlV y)) = q
    simp only [Sem.run_bind]
    cases q.run Tryz.prog w with
    | ok a w1 => simp
    | halt a w1 => simp [Result.andThen]
  exact e _ h
theorem guard_rl : GuardAt Tryz.prog 150 rlV := GuardAt.agg _ (by kernel_rfl)
end Go.Proofs.YtjmcokcdaddpcaaGreatDoor
namespace Go.Proofs.YtjmcokcdaddpcaaGreatDoor
open Go.RowKit
/-- A slice of rules: its cells at a place. -/
theorem rl_cells {w : World} {B g cap n : Nat} {rs : List Dsr.Rl} (h : w.ownsRow B 150 3 (.slice (some ⟨g, 0, none⟩) n cap) n (rs.flatMap rlC)) {k : Nat} {r : Dsr.Rl} (hk : rs[k]? = some r) :
    w.cell? ⟨g, k * 3, none⟩ = some (strV r.left) ∧ w.cell? ⟨g, k * 3 + 1, none⟩ = some (strV r.right) ∧ w.cell? ⟨g, k * 3 + 2, none⟩ = some (.int .u8 r.kind) :=
  ⟨own_cell h ((Dsr.flatM 3 rlC (fun _ => rfl) rs k r 0 hk (by omega)).trans rfl), own_cell h ((Dsr.flatM 3 rlC (fun _ => rfl) rs k r 1 hk (by omega)).trans rfl), own_cell h ((Dsr.flatM 3 rlC (fun _ => rfl) rs k r 2 hk (by omega)).trans rfl)⟩
theorem flat_set3 : ∀ (rs : List Dsr.Rl) (k : Nat) (x : Dsr.Rl), k < rs.length → (((rs.flatMap rlC).set (k * 3) (strV x.left)).set (k * 3 + 1) (strV x.right)).set (k * 3 + 2) (.int .u8 x.kind) = (rs.set k x).flatMap rlC
  | [], k, x, h => by simp at h
  | a :: rs, 0, x, h => by simp [rlC]
  | a :: rs, k + 1, x, h => by
    have ih := flat_set3 rs k x (by simpa using h)
    have e0 : (k + 1) * 3 = k * 3 + 1 + 1 + 1 := by omega
    rw [List.flatMap_cons, List.set_cons_succ, List.flatMap_cons, ← ih, e0]
    simp [rlC]
theorem own_set3 {w : World} {B g cap n : Nat} {rs : List Dsr.Rl} (h : w.ownsRow B 150 3 (.slice (some ⟨g, 0, none⟩) n cap) n (rs.flatMap rlC)) (hl : rs.length = n) {k : Nat} (hk : k < n) (x : Dsr.Rl) :
    (((w.setCell ⟨g, k * 3, none⟩ (strV x.left)).setCell ⟨g, k * 3 + 1, none⟩ (strV x.right)).setCell ⟨g, k * 3 + 2, none⟩ (.int .u8 x.kind)).ownsRow B 150 3 (.slice (some ⟨g, 0, none⟩) n cap) n ((rs.set k x).flatMap rlC) := by
  rw [← flat_set3 rs k x (by omega)]
  exact (((h.stored (k * 3) (strV x.left)).1.stored (k * 3 + 1) (strV x.right)).1.stored (k * 3 + 2) (.int .u8 x.kind)).1
/-- Of a slice's row the beginning. -/
theorem own_part {w : World} {B g cap n m : Nat} {e : TypeId} {xs : List Value} (h : w.ownsRow B e m (.slice (some ⟨g, 0, none⟩) n cap) n xs) {k : Nat} (hk : k ≤ n) : w.ownsRow B e m (.slice (some ⟨g, 0, none⟩) k cap) k (xs.take (k * m)) := by
  have hkm : k * m ≤ n * m := Nat.mul_le_mul_right _ hk
  refine ⟨by rw [List.length_take, h.1]; omega, .inr ?_⟩
  rcases h.2 with ⟨h1, _⟩ | ⟨g', cap', cur, h1, hB, hb, h2, h3, h4, h5⟩
  · cases h1
  · injection h1 with ha _ hc
    injection ha with ha
    injection ha with hg _ _
    subst hg
    subst hc
    exact ⟨g, cap, cur, rfl, hB, hb, by omega, h3, h4, by rw [← h5, List.take_take, Nat.min_eq_left hkm]⟩
theorem setCells_row (g : Nat) (T : TypeId) : ∀ (vs : List Value) (o : Nat) (w : World) (cur : Array Value), w.heap[g]? = some (.cells cur T (0, 0)) → ∃ cur', (w.setCells g o vs).heap[g]? = some (.cells cur' T (0, 0)) ∧ cur'.size = cur.size ∧ ∀ j, j < o → cur'[j]? = cur[j]?
  | [], o, w, cur, h => ⟨cur, h, rfl, fun _ _ => rfl⟩
  | v :: vs, o, w, cur, h => by
    obtain ⟨c1, h1, h2, h3⟩ := setCells_row g T vs (o + 1) (w.setCell ⟨g, o, none⟩ v) _ (blk_set h o v)
    refine ⟨c1, h1, by simpa using h2, fun j hj => ?_⟩
    rw [h3 j (by omega), Array.getElem?_setIfInBounds, if_neg (by omega)]
theorem setCells_far (g : Nat) : ∀ (vs : List Value) (o : Nat) (w : World) (k : Nat), k ≠ g → (w.setCells g o vs).heap[k]? = w.heap[k]?
  | [], o, w, k, _ => rfl
  | v :: vs, o, w, k, h => by
    show ((w.setCell ⟨g, o, none⟩ v).setCells g (o + 1) vs).heap[k]? = _
    rw [setCells_far g vs (o + 1) _ k h]
    exact heap_setCell_other _ _ _ _ h
theorem grown_setCells (w : World) (g o : Nat) (vs : List Value) : w.grownBy (w.setCells g o vs) (some g) := by
  induction vs generalizing w o with
  | nil => exact World.grownBy.refl _ _
  | cons v vs ih =>
    have h1 := ih (w.setCell ⟨g, o, none⟩ v) (o + 1)
    exact ⟨h1.os, h1.tape, h1.output, Nat.le_trans (by simp) h1.size, fun k hk hne => (h1.block k (by simpa using hk) hne).trans (heap_setCell_other _ _ _ _ (fun e => hne (by rw [e])))⟩
/-- Stores behind a slice's end. -/
theorem own_behind {w : World} {B g cap n m o : Nat} {e : TypeId} {xs vs : List Value} (h : w.ownsRow B e m (.slice (some ⟨g, 0, none⟩) n cap) n xs) (ho : n * m ≤ o) : (w.setCells g o vs).ownsRow B e m (.slice (some ⟨g, 0, none⟩) n cap) n xs := by
  refine ⟨h.1, .inr ?_⟩
  rcases h.2 with ⟨h1, _⟩ | ⟨g', cap', cur, h1, hB, hb, h2, h3, h4, h5⟩
  · cases h1
  · injection h1 with ha _ hc
    injection ha with ha
    injection ha with hg _ _
    subst hg
    subst hc
    obtain ⟨c1, e1, e2, e3⟩ := setCells_row g e vs o w cur hb
    refine ⟨g, cap, c1, rfl, hB, e1, h2, h3, by rw [e2]; exact h4, ?_⟩
    rw [← h5]
    apply List.ext_getElem?
    intro j
    by_cases hj : j < n * m
    · rw [List.getElem?_take, if_pos hj, List.getElem?_take, if_pos hj, Array.getElem?_toList, Array.getElem?_toList]
      exact e3 j (by omega)
    · rw [List.getElem?_take, if_neg hj, List.getElem?_take, if_neg hj]
theorem clear_run (w : World) (ty : TypeId) (b o n c : Nat) (hn : 0 < n) (hc : ∀ j, j < n * 3 → (w.cell? ⟨b, o + j, none⟩).isSome = true) (hf : ∀ j, j < n * 3 → w.frozen? ⟨b, o + j, none⟩ = false) :
    ∃ vs : List Value, (Builtin.clear_ #[89] ty #[.slice (some ⟨b, o, none⟩) n c]).run Tryz.prog w = .ok (.tuple #[]) (w.setCells b o vs) := by
  have hv : ∀ w, (zeroValue 150).run Tryz.prog w = .ok (.agg #[.string ⟨#[]⟩, .string ⟨#[]⟩, .int .u8 0]) w := Tryz.zeroValue150
  have hl : (Builtin.zeroCells (Value.agg #[.string ⟨#[]⟩, .string ⟨#[]⟩, .int .u8 0]).cells n).toList.length = n * 3 := by simp [Builtin.zeroCells, Value.cells]
  have h1 : ∀ v ∈ (Builtin.zeroCells (Value.agg #[.string ⟨#[]⟩, .string ⟨#[]⟩, .int .u8 0]).cells n).toList, v.oneCell' = true := by
    intro v hv'
    simp only [Builtin.zeroCells, Array.toList_map, List.mem_map] at hv'
    obtain ⟨i, _, rfl⟩ := hv'
    have e : (Value.agg #[.string ⟨#[]⟩, .string ⟨#[]⟩, .int .u8 0]).cells = #[.string ⟨#[]⟩, .string ⟨#[]⟩, .int .u8 0] := rfl
    rw [e]
    have h3 : i % 3 = 0 ∨ i % 3 = 1 ∨ i % 3 = 2 := by omega
    show (#[Value.string ⟨#[]⟩, .string ⟨#[]⟩, .int .u8 0] : Array Value)[i % 3]!.oneCell' = true
    rcases h3 with h | h | h <;> rw [h] <;> rfl
  have hst := run_storeCells_cells (P := Tryz.prog) b o (Builtin.zeroCells (Value.agg #[.string ⟨#[]⟩, .string ⟨#[]⟩, .int .u8 0]).cells n).toList 0 w (by rw [hl]; simpa using hc) (by rw [hl]; simpa using hf) h1
  simp only [Nat.add_zero] at hst
  refine ⟨(Builtin.zeroCells (Value.agg #[.string ⟨#[]⟩, .string ⟨#[]⟩, .int .u8 0]).cells n).toList, ?_⟩
  obtain ⟨m, rfl⟩ : ∃ m, n = m + 1 := ⟨n - 1, by omega⟩
  simp [Builtin.clear_, run_underlying Tryz.underlying89, hv, hst]
end Go.Proofs.YtjmcokcdaddpcaaGreatDoor
