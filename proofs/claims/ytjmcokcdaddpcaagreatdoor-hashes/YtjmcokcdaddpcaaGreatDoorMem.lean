import Derived.Test.YtjmcokcdaddpcaaGreatDoorScan2
import Derived.Test.YtjmcokcdaddpcaaGreatDoorPure2
import Derived.Deep.AppendLies
import Derived.Deep.QuietTactic
import Derived.BigQuiet
import Derived.BigRegion
import Derived.Deep.RegionLaw
import Derived.Deep.RegionWith
import Derived.Deep.RegionHeldLaw
set_option linter.unusedVariables false
set_option linter.unusedSimpArgs false
namespace Go.Proofs.YtjmcokcdaddpcaaGreatDoor
open Go.RowKit
/-- What may have turned: the blocks of S, and new ones. -/
structure Kp (S : Nat → Prop) (w w' : World) : Prop where
  os : w'.os = w.os
  tape : w'.tape = w.tape
  output : w'.output = w.output
  size : w.heap.size ≤ w'.heap.size
  block : ∀ k, k < w.heap.size → ¬ S k → w'.heap[k]? = w.heap[k]?
theorem Kp.refl (S : Nat → Prop) (w : World) : Kp S w w := ⟨rfl, rfl, rfl, Nat.le_refl _, fun _ _ _ => rfl⟩
theorem Kp.trans {S S' : Nat → Prop} {w w1 w2 : World} (h : Kp S w w1) (h' : Kp S' w1 w2) (hs : ∀ k, S' k → S k ∨ w.heap.size ≤ k) : Kp S w w2 :=
  ⟨h'.os.trans h.os, h'.tape.trans h.tape, h'.output.trans h.output, Nat.le_trans h.size h'.size, fun k hk hn =>
    (h'.block k (Nat.lt_of_lt_of_le hk h.size) (fun hc => by rcases hs k hc with h1 | h1; exact hn h1; omega)).trans (h.block k hk hn)⟩
theorem Kp.mono {S S' : Nat → Prop} {w w1 : World} (h : Kp S w w1) (hs : ∀ k, S k → S' k ∨ w.heap.size ≤ k) : Kp S' w w1 :=
  ⟨h.os, h.tape, h.output, h.size, fun k hk hn => h.block k hk (fun hc => by rcases hs k hc with h1 | h1; exact hn h1; omega)⟩
theorem Kp.drew {S : Nat → Prop} {w w1 : World} (h : Kp S w w1) : Kp S w w1.drew := ⟨h.os, h.tape, h.output, h.size, h.block⟩
theorem Kp.drewN {S : Nat → Prop} {w w1 : World} (h : Kp S w w1) (n : Nat) : Kp S w (w1.drewN n) := ⟨h.os, h.tape, h.output, h.size, h.block⟩
theorem Kp.alloc {S : Nat → Prop} {w w1 : World} (h : Kp S w w1) (o : Obj) : Kp S w (w1.alloc o) :=
  h.trans (S' := fun _ => False) ⟨rfl, rfl, rfl, by simp, fun k hk _ => Below.heap_alloc _ _ _ hk⟩ (fun _ h => h.elim)
theorem Kp.setCell {S : Nat → Prop} {w w1 : World} (h : Kp S w w1) {a : Addr} (ha : S a.block ∨ w.heap.size ≤ a.block) (v : Value) : Kp S w (w1.setCell a v) :=
  h.trans (S' := fun k => k = a.block) ⟨rfl, rfl, rfl, by simp [World.setCell], fun k hk hn => Below.heap_setCell _ _ _ _ hn⟩ (fun k hk => by subst hk; exact ha)
theorem Kp.grown {S : Nat → Prop} {w w1 w2 : World} {row : Option Nat} (h : Kp S w w1) (hg : w1.grownBy w2 row) (hr : ∀ k, row = some k → S k ∨ w.heap.size ≤ k) : Kp S w w2 :=
  h.trans (S' := fun k => row = some k) ⟨hg.os, hg.tape, hg.output, hg.size, fun k hk hn => hg.block k hk (fun e => hn e.symm)⟩ hr
theorem Kp.ofBelow {S : Nat → Prop} {w w1 w2 : World} (h : Kp S w w1) (hb : Below w1.heap.size w1 w2) : Kp S w w2 :=
  h.trans (S' := fun _ => False) ⟨hb.os, hb.tape, hb.output, hb.size, fun k hk _ => hb.block k hk⟩ (fun _ h => h.elim)
theorem Kp.below {S : Nat → Prop} {w w1 : World} {B : Nat} (h : Kp S w w1) (hB : B ≤ w.heap.size) (hS : ∀ k, S k → B ≤ k) : Below B w w1 :=
  ⟨h.os, h.tape, h.output, h.size, fun k hk => h.block k (by omega) (fun hc => by have := hS k hc; omega)⟩
theorem Kp.cell {S : Nat → Prop} {w w1 : World} (h : Kp S w w1) {a : Addr} (ha : a.block < w.heap.size) (hn : ¬ S a.block) : w1.cell? a = w.cell? a := World.cell?_of_block (h.block _ ha hn)
theorem Kp.frozen {S : Nat → Prop} {w w1 : World} (h : Kp S w w1) {a : Addr} (ha : a.block < w.heap.size) (hn : ¬ S a.block) : w1.frozen? a = w.frozen? a := World.frozen?_of_block (h.block _ ha hn)
theorem SignsIn.kp {S : Nat → Prop} {w w' : World} (h : SignsIn w) (hk : Kp S w w') (hS : ¬ S 0) : SignsIn w' := by
  obtain ⟨h0, c0, c1, c2, c3, c4⟩ := h
  exact ⟨Nat.lt_of_lt_of_le h0 hk.size, by rw [hk.cell h0 hS, c0], by rw [hk.cell h0 hS, c1], by rw [hk.cell h0 hS, c2], by rw [hk.cell h0 hS, c3], by rw [hk.cell h0 hS, c4]⟩
theorem ownsRow_of_block {w w' : World} {base : Nat} {e : TypeId} {size : Nat} {v : Value} {n : Nat} {xs : List Value} (h : w.ownsRow base e size v n xs) (hb : ∀ k, k < w.heap.size → v.ownBlock = some k → w'.heap[k]? = w.heap[k]?) : w'.ownsRow base e size v n xs := by
  refine ⟨h.1, ?_⟩
  rcases h.2 with hn | ⟨g, cap, cur, rfl, hbg, hgg, rest⟩
  · exact .inl hn
  · exact .inr ⟨g, cap, cur, rfl, hbg, by rw [hb g (Array.getElem?_eq_some_iff.1 hgg).1 rfl]; exact hgg, rest⟩
abbrev strV (l : List UInt8) : Value := .string ⟨l.toArray⟩
/-- The cells of a use, an event, a rule. -/
def usC (u : Dsr.Us) : List Value := [.int .u8 u.as_, .int .i64 u.event, strV u.name, .int .i64 u.at_]
def rlC (r : Dsr.Rl) : List Value := [strV r.left, strV r.right, .int .u8 r.kind]
def evC (e : Dsr.Ev) (v : Value) : List Value := [strV e.name, v, .bool e.done, .bool e.inn, .bool e.due]
def evCells : List Dsr.Ev → List Value → List Value
  | e :: es, v :: vs => evC e v ++ evCells es vs
  | _, _ => []
/-- The slices that a reader holds. -/
structure St where
  ve : Value
  vr : Value
  vu : Value
  rv : List Value
def Mine (b : Nat) (s : St) (k : Nat) : Prop := k = b ∨ s.ve.ownBlock = some k ∨ s.vr.ownBlock = some k ∨ s.vu.ownBlock = some k
abbrev rdCells (t : ByteArray) (r : Dsr.Rd) (s : St) : Array Value :=
  #[.string t, .int .u8 r.now.kind, .int .u8 r.now.rule, .int .i64 r.now.at_, strV r.now.text, s.ve, s.vr, s.vu, .int .i64 r.fErr, .int .i64 r.fAt]
def Differ (x y : Option Nat) : Prop := x = none ∨ x ≠ y
structure RdAt (B b : Nat) (w : World) (t : ByteArray) (r : Dsr.Rd) (s : St) : Prop where
  pos : 0 < B
  low : B ≤ b
  blk : w.heap[b]? = some (.cells (rdCells t r s) 138 (0, 0))
  evs : w.ownsRow B 144 5 s.ve r.events.length (evCells r.events s.rv)
  rls : w.ownsRow B 150 3 s.vr r.rules.length (r.rules.flatMap rlC)
  uss : w.ownsRow B 199 4 s.vu r.uses.length (r.uses.flatMap usC)
  len : s.rv.length = r.events.length
  rol : ∀ (i : Nat) (e : Dsr.Ev) (v : Value), r.events[i]? = some e → s.rv[i]? = some v → w.ownsRow B 9 1 v e.roles.length (e.roles.map strV)
  apart : (some b :: s.ve.ownBlock :: s.vr.ownBlock :: s.vu.ownBlock :: s.rv.map Value.ownBlock).Pairwise Differ
theorem RdAt.lt {B b : Nat} {w : World} {t : ByteArray} {r : Dsr.Rd} {s : St} (h : RdAt B b w t r s) : b < w.heap.size := (Array.getElem?_eq_some_iff.1 h.blk).1
theorem RdAt.mine {B b : Nat} {w : World} {t : ByteArray} {r : Dsr.Rd} {s : St} (h : RdAt B b w t r s) {k : Nat} (hk : Mine b s k) : B ≤ k ∧ k < w.heap.size := by
  rcases hk with rfl | hk | hk | hk
  · exact ⟨h.low, h.lt⟩
  · exact h.evs.lt k hk
  · exact h.rls.lt k hk
  · exact h.uss.lt k hk
theorem RdAt.rvOwn {B b : Nat} {w : World} {t : ByteArray} {r : Dsr.Rd} {s : St} (h : RdAt B b w t r s) {v : Value} (hv : v ∈ s.rv) {k : Nat} (hk : v.ownBlock = some k) : B ≤ k ∧ k < w.heap.size := by
  obtain ⟨i, hi, rfl⟩ := List.getElem_of_mem hv
  have hie : i < r.events.length := by rw [← h.len]; exact hi
  exact (h.rol i r.events[i] s.rv[i] (List.getElem?_eq_getElem hie) (List.getElem?_eq_getElem hi)).lt k hk
/-- The reader is as it was where its blocks are. -/
theorem RdAt.same {B b : Nat} {w w' : World} {t : ByteArray} {r : Dsr.Rd} {s : St} (h : RdAt B b w t r s)
    (hk : ∀ k, k < w.heap.size → B ≤ k → (Mine b s k ∨ ∃ v ∈ s.rv, v.ownBlock = some k) → w'.heap[k]? = w.heap[k]?) : RdAt B b w' t r s :=
  { pos := h.pos, low := h.low, len := h.len, apart := h.apart
    blk := by rw [hk b h.lt h.low (.inl (.inl rfl))]; exact h.blk
    evs := ownsRow_of_block h.evs fun k hk1 hv => hk k hk1 (h.evs.lt k hv).1 (.inl (.inr (.inl hv)))
    rls := ownsRow_of_block h.rls fun k hk1 hv => hk k hk1 (h.rls.lt k hv).1 (.inl (.inr (.inr (.inl hv))))
    uss := ownsRow_of_block h.uss fun k hk1 hv => hk k hk1 (h.uss.lt k hv).1 (.inl (.inr (.inr (.inr hv))))
    rol := fun i e v he hv => ownsRow_of_block (h.rol i e v he hv) fun k hk1 ho => hk k hk1 ((h.rol i e v he hv).lt k ho).1 (.inr ⟨v, List.mem_of_getElem? hv, ho⟩) }
/-- The reader's own cells are written: its lists stay. -/
theorem RdAt.put {B b : Nat} {w w' : World} {t : ByteArray} {r r' : Dsr.Rd} {s : St} (h : RdAt B b w t r s) (he : r'.events = r.events) (hr : r'.rules = r.rules) (hu : r'.uses = r.uses)
    (hb : w'.heap[b]? = some (.cells (rdCells t r' s) 138 (0, 0))) (hk : ∀ k, k < w.heap.size → k ≠ b → w'.heap[k]? = w.heap[k]?) : RdAt B b w' t r' s := by
  have ha := h.apart
  rw [List.pairwise_cons] at ha
  have hne : ∀ v : Value, v.ownBlock ∈ (s.ve.ownBlock :: s.vr.ownBlock :: s.vu.ownBlock :: s.rv.map Value.ownBlock) → ∀ k, v.ownBlock = some k → k ≠ b := by
    intro v hv k hkk e
    subst e
    rcases ha.1 _ hv with h1 | h1
    · cases h1
    · exact h1 hkk.symm
  exact
  { pos := h.pos, low := h.low, len := by rw [he]; exact h.len, apart := h.apart
    blk := hb
    evs := by rw [he]; exact ownsRow_of_block h.evs fun k hk1 hv => hk k hk1 (hne _ (by simp) k hv)
    rls := by rw [hr]; exact ownsRow_of_block h.rls fun k hk1 hv => hk k hk1 (hne _ (by simp) k hv)
    uss := by rw [hu]; exact ownsRow_of_block h.uss fun k hk1 hv => hk k hk1 (hne _ (by simp) k hv)
    rol := fun i e v he' hv => ownsRow_of_block (h.rol i e v (by rw [← he]; exact he') hv) fun k hk1 ho => hk k hk1 (hne v (by simp; right; right; right; exact ⟨v, List.mem_of_getElem? hv, rfl⟩) k ho) }
/-- What the walk wants of the reader's block. -/
theorem RdAt.cells {B b : Nat} {w : World} {t : ByteArray} {r : Dsr.Rd} {s : St} (h : RdAt B b w t r s) :
    w.cell? ⟨b, 0, none⟩ = some (.string t) ∧ w.cell? ⟨b, 1, none⟩ = some (.int .u8 r.now.kind) ∧ w.cell? ⟨b, 2, none⟩ = some (.int .u8 r.now.rule) ∧ w.cell? ⟨b, 3, none⟩ = some (.int .i64 r.now.at_) ∧ w.cell? ⟨b, 4, none⟩ = some (strV r.now.text) ∧
    w.cell? ⟨b, 5, none⟩ = some s.ve ∧ w.cell? ⟨b, 6, none⟩ = some s.vr ∧ w.cell? ⟨b, 7, none⟩ = some s.vu ∧ w.cell? ⟨b, 8, none⟩ = some (.int .i64 r.fErr) ∧ w.cell? ⟨b, 9, none⟩ = some (.int .i64 r.fAt) ∧ (∀ o, w.frozen? ⟨b, o, none⟩ = false) := by
  have hb := h.blk
  refine ⟨?_, ?_, ?_, ?_, ?_, ?_, ?_, ?_, ?_, ?_, ?_⟩
  all_goals first
    | (intro o; simp [World.frozen?, hb])
    | simp [World.cell?, hb]
end Go.Proofs.YtjmcokcdaddpcaaGreatDoor
