import Derived.Test.YtjmcokcdaddpcaaGreatDoorUb
import Derived.Test.YtjmcokcdaddpcaaGreatDoorUa
import Derived.Deep.AppendLies
import Derived.Deep.QuietTactic
import Derived.BigQuiet
import Derived.BigRegion
import Derived.Deep.RegionLaw
import Derived.Deep.RegionWith
import Derived.Deep.RegionHeldLaw
set_option linter.unusedVariables false
set_option linter.unusedSimpArgs false
namespace Go.Proofs.YtjmcokcdaddpcaaGreatDoor
open Go.RowKit
/-- What may have turned: the blocks of S, and new ones. -/
structure Kp (S : Nat → Prop) (w w' : World) : Prop where
  os : w'.os = w.os
  tape : w'.tape = w.tape
  output : w'.output = w.output
  size : w.heap.size ≤ w'.heap.size
  block : ∀ k, k < w.heap.size → ¬ S k → w'.heap[k]? = w.heap[k]?
theorem Kp.refl (S : Nat → Prop) (w : World) : Kp S w w := ⟨rfl, rfl, rfl, Nat.le_refl _, fun _ _ _ => rfl⟩
theorem Kp.trans {S S' : Nat → Prop} {w w1 w2 : World} (h : Kp S w w1) (h' : Kp S' w1 w2) (hs : ∀ k, S' k → S k ∨ w.heap.size ≤ k) : Kp S w w2 :=
  ⟨h'.os.trans h.os, h'.tape.trans h.tape, h'.output.trans h.output, Nat.le_trans h.size h'.size, fun k hk hn =>
    (h'.block k (Nat.lt_of_lt_of_le hk h.size) (fun hc => by rcases hs k hc with h1 | h1; exact hn h1; omega)).trans (h.block k hk hn)⟩
theorem Kp.mono {S S' : Nat → Prop} {w w1 : World} (h : Kp S w w1) (hs : ∀ k, S k → S' k ∨ w.heap.size ≤ k) : Kp S' w w1 :=
  ⟨h.os, h.tape, h.output, h.size, fun k hk hn => h.block k hk (fun hc => by rcases hs k hc with h1 | h1; exact hn h1; omega)⟩
theorem Kp.drew {S : Nat → Prop} {w w1 : World} (h : Kp S w w1) : Kp S w w1.drew := ⟨h.os, h.tape, h.output, h.size, h.block⟩
theorem Kp.drewN {S : Nat → Prop} {w w1 : World} (h : Kp S w w1) (n : Nat) : Kp S w (w1.drewN n) := ⟨h.os, h.tape, h.output, h.size, h.block⟩
theorem Kp.alloc {S : Nat → Prop} {w w1 : World} (h : Kp S w w1) (o : Obj) : Kp S w (w1.alloc o) :=
  h.trans (S' := fun _ => False) ⟨rfl, rfl, rfl, by simp, fun k hk _ => Below.heap_alloc _ _ _ hk⟩ (fun _ h => h.elim)
theorem Kp.setCell {S : Nat → Prop} {w w1 : World} (h : Kp S w w1) {a : Addr} (ha : S a.block ∨ w.heap.size ≤ a.block) (v : Value) : Kp S w (w1.setCell a v) :=
  h.trans (S' := fun k => k = a.block) ⟨rfl, rfl, rfl, by simp [World.setCell], fun k hk hn => Below.heap_setCell _ _ _ _ hn⟩ (fun k hk => by subst hk; exact ha)
theorem Kp.grown {S : Nat → Prop} {w w1 w2 : World} {row : Option Nat} (h : Kp S w w1) (hg : w1.grownBy w2 row) (hr : ∀ k, row = some k → S k ∨ w.heap.size ≤ k) : Kp S w w2 :=
  h.trans (S' := fun k => row = some k) ⟨hg.os, hg.tape, hg.output, hg.size, fun k hk hn => hg.block k hk (fun e => hn e.symm)⟩ hr
theorem Kp.ofBelow {S : Nat → Prop} {w w1 w2 : World} (h : Kp S w w1) (hb : Below w1.heap.size w1 w2) : Kp S w w2 :=
  h.trans (S' := fun _ => False) ⟨hb.os, hb.tape, hb.output, hb.size, fun k hk _ => hb.block k hk⟩ (fun _ h => h.elim)
theorem Kp.below {S : Nat → Prop} {w w1 : World} {B : Nat} (h : Kp S w w1) (hB : B ≤ w.heap.size) (hS : ∀ k, S k → B ≤ k) : Below B w w1 :=
  ⟨h.os, h.tape, h.output, h.size, fun k hk => h.block k (by omega) (fun hc => by have := hS k hc; omega)⟩
theorem Kp.cell {S : Nat → Prop} {w w1 : World} (h : Kp S w w1) {a : Addr} (ha : a.block < w.heap.size) (hn : ¬ S a.block) : w1.cell? a = w.cell? a := World.cell?_of_block (h.block _ ha hn)
theorem Kp.frozen {S : Nat → Prop} {w w1 : World} (h : Kp S w w1) {a : Addr} (ha : a.block < w.heap.size) (hn : ¬ S a.block) : w1.frozen? a = w.frozen? a := World.frozen?_of_block (h.block _ ha hn)
theorem SignsIn.kp {S : Nat → Prop} {w w' : World} (h : SignsIn w) (hk : Kp S w w') (hS : ¬ S 0) : SignsIn w' := by
  obtain ⟨h0, c0, c1, c2, c3, c4⟩ := h
  exact ⟨Nat.lt_of_lt_of_le h0 hk.size, by rw [hk.cell h0 hS, c0], by rw [hk.cell h0 hS, c1], by rw [hk.cell h0 hS, c2], by rw [hk.cell h0 hS, c3], by rw [hk.cell h0 hS, c4]⟩
theorem ownsRow_of_block {w w' : World} {base : Nat} {e : TypeId} {size : Nat} {v : Value} {n : Nat} {xs : List Value} (h : w.ownsRow base e size v n xs) (hb : ∀ k, k < w.heap.size → v.ownBlock = some k → w'.heap[k]? = w.heap[k]?) : w'.ownsRow base e size v n xs := by
  refine ⟨h.1, ?_⟩
  rcases h.2 with hn | ⟨g, cap, cur, rfl, hbg, hgg, rest⟩
  · exact .inl hn
  · exact .inr ⟨g, cap, cur, rfl, hbg, by rw [hb g (Array.getElem?_eq_some_iff.1 hgg).1 rfl]; exact hgg, rest⟩
abbrev strV (l : List UInt8) : Value := .string ⟨l.toArray⟩
/-- The cells of a use, an event, a rule. -/
def usC (u : Dsr.Us) : List Value := [.int .u8 u.as_, .int .i64 u.event, strV u.name, .int .i64 u.at_]
def rlC (r : Dsr.Rl) : List Value := [strV r.left, strV r.right, .int .u8 r.kind]
def evC (e : Dsr.Ev) (v : Value) : List Value := [strV e.name, v, .bool e.done, .bool e.inn, .bool e.due]
def evCells : List Dsr.Ev → List Value → List Value
  | e :: es, v :: vs => evC e v ++ evCells es vs
  | _, _ => []
/-- The slices that a reader holds. -/
structure St where
  ve : Value
  vr : Value
  vu : Value
  rv : List Value
def Mine (b : Nat) (s : St) (k : Nat) : Prop := k = b ∨ s.ve.ownBlock = some k ∨ s.vr.ownBlock = some k ∨ s.vu.ownBlock = some k
abbrev rdCells (t : ByteArray) (r : Dsr.Rd) (s : St) : Array Value :=
  #[.string t, .int .u8 r.now.kind, .int .u8 r.now.rule, .int .i64 r.now.at_, strV r.now.text, s.ve, s.vr, s.vu, .int .i64 r.fErr, .int .i64 r.fAt]
def Differ (x y : Option Nat) : Prop := x = none ∨ x ≠ y
structure RdAt (B b : Nat) (w : World) (t : ByteArray) (r : Dsr.Rd) (s : St) : Prop where
  pos : 0 < B
  low : B ≤ b
  blk : w.heap[b]? = some (.cells (rdCells t r s) 138 (0, 0))
  evs : w.ownsRow B 144 5 s.ve r.events.length (evCells r.events s.rv)
  rls : w.ownsRow B 150 3 s.vr r.rules.length (r.rules.flatMap rlC)
  uss : w.ownsRow B 199 4 s.vu r.uses.length (r.uses.flatMap usC)
  len : s.rv.length = r.events.length
  rol : ∀ (i : Nat) (e : Dsr.Ev) (v : Value), r.events[i]? = some e → s.rv[i]? = some v → w.ownsRow B 9 1 v e.roles.length (e.roles.map strV)
  apart : (some b :: s.ve.ownBlock :: s.vr.ownBlock :: s.vu.ownBlock :: s.rv.map Value.ownBlock).Pairwise Differ
theorem RdAt.lt {B b : Nat} {w : World} {t : ByteArray} {r : Dsr.Rd} {s : St} (h : RdAt B b w t r s) : b < w.heap.size := (Array.getElem?_eq_some_iff.1 h.blk).1
theorem RdAt.mine {B b : Nat} {w : World} {t : ByteArray} {r : Dsr.Rd} {s : St} (h : RdAt B b w t r s) {k : Nat} (hk : Mine b s k) : B ≤ k ∧ k < w.heap.size := by
  rcases hk with rfl | hk | hk | hk
  · exact ⟨h.low, h.lt⟩
  · exact h.evs.lt k hk
  · exact h.rls.lt k hk
  · exact h.uss.lt k hk
theorem RdAt.rvOwn {B b : Nat} {w : World} {t : ByteArray} {r : Dsr.Rd} {s : St} (h : RdAt B b w t r s) {v : Value} (hv : v ∈ s.rv) {k : Nat} (hk : v.ownBlock = some k) : B ≤ k ∧ k < w.heap.size := by
  obtain ⟨i, hi, rfl⟩ := List.getElem_of_mem hv
  have hie : i < r.events.length := by rw [← h.len]; exact hi
  exact (h.rol i r.events[i] s.rv[i] (List.getElem?_eq_getElem hie) (List.getElem?_eq_getElem hi)).lt k hk
/-- The reader is as it was where its blocks are. -/
theorem RdAt.same {B b : Nat} {w w' : World} {t : ByteArray} {r : Dsr.Rd} {s : St} (h : RdAt B b w t r s)
    (hk : ∀ k, k < w.heap.size → B ≤ k → (Mine b s k ∨ ∃ v ∈ s.rv, v.ownBlock = some k) → w'.heap[k]? = w.heap[k]?) : RdAt B b w' t r s :=
  { pos := h.pos, low := h.low, len := h.len, apart := h.apart
    blk := by rw [hk b h.lt h.low (.inl (.inl rfl))]; exact h.blk
    evs := ownsRow_of_block h.evs fun k hk1 hv => hk k hk1 (h.evs.lt k hv).1 (.inl (.inr (.inl hv)))
    rls := ownsRow_of_block h.rls fun k hk1 hv => hk k hk1 (h.rls.lt k hv).1 (.inl (.inr (.inr (.inl hv))))
    uss := ownsRow_of_block h.uss fun k hk1 hv => hk k hk1 (h.uss.lt k hv).1 (.inl (.inr (.inr (.inr hv))))
    rol := fun i e v he hv => ownsRow_of_block (h.rol i e v he hv) fun k hk1 ho => hk k hk1 ((h.rol i e v he hv).lt k ho).1 (.inr ⟨v, List.mem_of_getElem? hv, ho⟩) }
/-- The reader's own cells are written: its lists stay. -/
theorem RdAt.put {B b : Nat} {w w' : World} {t : ByteArray} {r r' : Dsr.Rd} {s : St} (h : RdAt B b w t r s) (he : r'.events = r.events) (hr : r'.rules = r.rules) (hu : r'.uses = r.uses)
    (hb : w'.heap[b]? = some (.cells (rdCells t r' s) 138 (0, 0))) (hk : ∀ k, k < w.heap.size → k ≠ b → w'.heap[k]? = w.heap[k]?) : RdAt B b w' t r' s := by
  have ha := h.apart
  rw [List.pairwise_cons] at ha
  have hne : ∀ v : Value, v.ownBlock ∈ (s.ve.ownBlock :: s.vr.ownBlock :: s.vu.ownBlock :: s.rv.map Value.ownBlock) → ∀ k, v.ownBlock = some k → k ≠ b := by
    intro v hv k hkk e
    subst e
    rcases ha.1 _ hv with h1 | h1
    · cases h1
    · exact h1 hkk.symm
  exact
  { pos := h.pos, low := h.low, len := by rw [he]; exact h.len, apart := h.apart
    blk := hb
    evs := by rw [he]; exact ownsRow_of_block h.evs fun k hk1 hv => hk k hk1 (hne _ (by simp) k hv)
    rls := by rw [hr]; exact ownsRow_of_block h.rls fun k hk1 hv => hk k hk1 (hne _ (by simp) k hv)
    uss := by rw [hu]; exact ownsRow_of_block h.uss fun k hk1 hv => hk k hk1 (hne _ (by simp) k hv)
    rol := fun i e v he' hv => ownsRow_of_block (h.rol i e v (by rw [← he]; exact he') hv) fun k hk1 ho => hk k hk1 (hne v (by simp; right; right; right; exact ⟨v, List.mem_of_getElem? hv, rfl⟩) k ho) }
/-- What the walk wants of the reader's block. -/
theorem RdAt.cells {B b : Nat} {w : World} {t : ByteArray} {r : Dsr.Rd} {s : St} (h : RdAt B b w t r s) :
    w.cell? ⟨b, 0, none⟩ = some (.string t) ∧ w.cell? ⟨b, 1, none⟩ = some (.int .u8 r.now.kind) ∧ w.cell? ⟨b, 2, none⟩ = some (.int .u8 r.now.rule) ∧ w.cell? ⟨b, 3, none⟩ = some (.int .i64 r.now.at_) ∧ w.cell? ⟨b, 4, none⟩ = some (strV r.now.text) ∧
    w.cell? ⟨b, 5, none⟩ = some s.ve ∧ w.cell? ⟨b, 6, none⟩ = some s.vr ∧ w.cell? ⟨b, 7, none⟩ = some s.vu ∧ w.cell? ⟨b, 8, none⟩ = some (.int .i64 r.fErr) ∧ w.cell? ⟨b, 9, none⟩ = some (.int .i64 r.fAt) ∧ (∀ o, w.frozen? ⟨b, o, none⟩ = false) := by
  have hb := h.blk
  refine ⟨?_, ?_, ?_, ?_, ?_, ?_, ?_, ?_, ?_, ?_, ?_⟩
  all_goals first
    | (intro o; simp [World.frozen?, hb])
    | simp [World.cell?, hb]
end Go.Proofs.YtjmcokcdaddpcaaGreatDoor
set_option linter.unusedVariables false
set_option linter.unusedSimpArgs false
namespace Go.Proofs.YtjmcokcdaddpcaaGreatDoor
open Go.RowKit
abbrev ptr (b : Nat) : Value := .pointer (some ⟨b, 0, none⟩)
/-- Stores into the reader's block, one behind the other. -/
theorem blk_set {w : World} {b : Nat} {cs : Array Value} {T : TypeId} (h : w.heap[b]? = some (.cells cs T (0, 0))) (o : Nat) (v : Value) :
    (w.setCell ⟨b, o, none⟩ v).heap[b]? = some (.cells (cs.setIfInBounds o v) T (0, 0)) := heap_setCell_same w b o cs T v h
theorem blk_drew {w : World} {b : Nat} {o : Option Obj} (h : w.heap[b]? = o) : w.drew.heap[b]? = o := h
theorem Kp.set {b : Nat} {w w1 : World} (h : Kp (· = b) w w1) (o : Nat) (v : Value) : Kp (· = b) w (w1.setCell ⟨b, o, none⟩ v) := h.setCell (.inl rfl) v
theorem scan_at (t : ByteArray) (i : Int) (n : Nat) (w : World) (hi : i = (n : Int)) (hs : t.size ≤ 400) (hn : n ≤ t.size) (hS : SignsIn w) :
    Calls Tryz.prog 98 #[.string t, .int .i64 i] w fun e w' => e = .returned (tokV (Dsr.scan t.data.toList n)) ∧ Below w.heap.size w w' := by
  subst hi; exact scan_any t n w hs hn hS
theorem wrap_sum (a b : Nat) {n : Nat} (h : a + b ≤ n) (hn : n ≤ 400) : IntKind.i64.wrap ((a : Int) + (b : Int)) = ((a + b : Nat) : Int) := by
  have e : ((a : Int) + (b : Int)) = ((a + b : Nat) : Int) := by omega
  rw [e]
  exact IntWalk.i64_in _ (by omega)
theorem RdAt.below {B b : Nat} {w w1 : World} {t : ByteArray} {r : Dsr.Rd} {s : St} (h : RdAt B b w t r s) (hb : Below w.heap.size w w1) : RdAt B b w1 t r s :=
  h.same fun k hk _ _ => hb.block k hk
/-- What the walk wants behind a call that makes memory alone. -/
theorem rd_after {B b : Nat} {w w1 : World} {t : ByteArray} {r : Dsr.Rd} {s : St} (h : RdAt B b w t r s) (hb : Below w.drew.heap.size w.drew w1) :
    Hid (RdAt B b w1 t r s ∧ Below w.heap.size w w1) ∧ w1.cell? ⟨b, 1, none⟩ = some (.int .u8 r.now.kind) ∧ w1.cell? ⟨b, 2, none⟩ = some (.int .u8 r.now.rule) ∧ w1.cell? ⟨b, 3, none⟩ = some (.int .i64 r.now.at_) ∧ w1.cell? ⟨b, 4, none⟩ = some (strV r.now.text) ∧ (∀ o, w1.frozen? ⟨b, o, none⟩ = false) := by
  have hb' : Below w.heap.size w w1 := ⟨hb.os, hb.tape, hb.output, hb.size, hb.block⟩
  have h1 := h.below hb'
  obtain ⟨c0, c1, c2, c3, c4, c5, c6, c7, c8, c9, fz⟩ := h1.cells
  exact ⟨⟨h1, hb'⟩, c1, c2, c3, c4, fz⟩
theorem signs_drew {w : World} (h : SignsIn w) : SignsIn w.drew := h
set_option maxRecDepth 100000 in
set_option maxHeartbeats 400000 in
theorem refuse_any {B b : Nat} {w : World} {t : ByteArray} {r : Dsr.Rd} {s : St} (e : Nat) (h : RdAt B b w t r s) (hs : t.size ≤ 400) :
    Calls Tryz.prog 101 #[ptr b, .int .i64 e] w fun x w' => x = .returned (.tuple #[]) ∧ RdAt B b w' t (Dsr.refuse t.data.toList r e) s ∧ Kp (· = b) w w' := by
  obtain ⟨c0, c1, c2, c3, c4, c5, c6, c7, c8, c9, fz⟩ := h.cells
  have hsz : t.data.toList.length = t.size := by simp
  by_cases h0 : r.fErr = 0
  · have hb : ((r.fErr : Int) == 0) = true := by simp [h0]
    have H : Hid (RdAt B b w t r s) := h
    have H0 : Hid (r.fErr = 0) := h0
    clear h h0
    go_enter Tryz.func101, Tryz.ntmps101
    go_wp2
    go_end0
    refine ⟨rfl, H.out.put rfl rfl rfl ?_ ?_, ?_⟩
    · rw [blk_set (blk_set (blk_set (blk_set (blk_set (blk_set H.out.blk 8 _) 9 _) 1 _) 2 _) 3 _) 4 _]
      simp [rdCells, Dsr.refuse, H0.out]
    · intro k hk hne
      repeat rw [heap_setCell_other _ _ _ _ hne]
    · exact ((((((Kp.refl _ w).set 8 _).set 9 _).set 1 _).set 2 _).set 3 _).set 4 _
  · have hb : ((r.fErr : Int) == 0) = false := by simp; omega
    have H : Hid (RdAt B b w t r s) := h
    have H0 : Hid (¬ r.fErr = 0) := h0
    clear h h0
    go_enter Tryz.func101, Tryz.ntmps101
    go_wp2
    go_end0
    refine ⟨rfl, H.out.put rfl rfl rfl ?_ ?_, ?_⟩
    · rw [blk_set (blk_set (blk_set (blk_set H.out.blk 1 _) 2 _) 3 _) 4 _]
      have h0 := H0.out
      simp [rdCells, Dsr.refuse, h0]
    · intro k hk hne
      repeat rw [heap_setCell_other _ _ _ _ hne]
    · exact ((((Kp.refl _ w).set 1 _).set 2 _).set 3 _).set 4 _
end Go.Proofs.YtjmcokcdaddpcaaGreatDoor
set_option linter.unusedVariables false
set_option linter.unusedSimpArgs false
namespace Go.Proofs.YtjmcokcdaddpcaaGreatDoor
open Go.RowKit
set_option maxRecDepth 100000 in
set_option maxHeartbeats 1600000 in
theorem takeIf_any {B b : Nat} {w : World} {t : ByteArray} {r : Dsr.Rd} {s : St} (k : Nat) (h : RdAt B b w t r s) (hs : t.size ≤ 400) (ho : r.ok t.data.toList) (hS : SignsIn w) :
    Calls Tryz.prog 183 #[ptr b, .int .u8 k] w fun x w' => x = .returned (.bool (decide (r.now.kind = k))) ∧ RdAt B b w' t (Dsr.takeIf t.data.toList r k) s ∧ Kp (· = b) w w' := by
  obtain ⟨c0, c1, c2, c3, c4, c5, c6, c7, c8, c9, fz⟩ := h.cells
  have hsz : t.data.toList.length = t.size := by simp
  have hlt := h.lt
  by_cases h0 : r.now.kind = k
  · have hb : ((r.now.kind : Int) != (k : Int)) = false := by simp [h0]
    have H : Hid (RdAt B b w t r s) := h
    have H0 : Hid (r.now.kind = k) := h0
    have HS : Hid (SignsIn w) := hS
    have ho' : r.now.at_ + r.now.text.length ≤ t.size := by simpa [Dsr.Rd.ok] using ho
    have HO : Hid (r.now.at_ + r.now.text.length ≤ t.size) := ho'
    have hO : (r.now.at_ : Int) + (r.now.text.length : Int) ≤ 400 := by have := HO.out; omega
    clear h h0 hS ho ho' c5 c6 c7 c8 c9 hsz
    go_enter Tryz.func183, Tryz.ntmps183
    go_wp2_with fail
    go_region_with (go_at_call 98; refine (scan_at t _ (r.now.at_ + r.now.text.length) _ (wrap_sum _ _ HO.out hs) hs HO.out (signs_drew HS.out)).mono ?_; rintro e w1 ⟨rfl, hb1⟩; obtain ⟨H1, d1, d2, d3, d4, fz1⟩ := rd_after H.out hb1)
    all_goals
      go_wp2_with fail
      go_ret
      refine ⟨ret_bool (by simp [H0.out]), ?_, (((((Kp.refl _ w).ofBelow H1.out.2).set 1 _).set 2 _).set 3 _).set 4 _⟩
      rw [Dsr.takeIf, if_pos H0.out]
      refine H1.out.1.put rfl rfl rfl ?_ ?_
      · rw [blk_set (blk_set (blk_set (blk_set H1.out.1.blk 1 _) 2 _) 3 _) 4 _]
        simp [rdCells, Dsr.step]
      · intro k hk hne
        repeat rw [heap_setCell_other _ _ _ _ hne]
  · have hb : ((r.now.kind : Int) != (k : Int)) = true := by simp; omega
    have H : Hid (RdAt B b w t r s) := h
    have H0 : Hid (¬ r.now.kind = k) := h0
    clear h h0 hS ho
    go_enter Tryz.func183, Tryz.ntmps183
    go_wp2_with fail
    go_ret
    exact ⟨ret_bool (by simp [H0.out]), by rw [Dsr.takeIf, if_neg H0.out]; exact H.out, Kp.refl _ _⟩
end Go.Proofs.YtjmcokcdaddpcaaGreatDoor
set_option linter.unusedVariables false
set_option linter.unusedSimpArgs false
namespace Go.Proofs.YtjmcokcdaddpcaaGreatDoor
open Go.RowKit
set_option maxRecDepth 100000 in
set_option maxHeartbeats 400000 in
theorem take_any {B b : Nat} {w : World} {t : ByteArray} {r : Dsr.Rd} {s : St} (k : Nat) (h : RdAt B b w t r s) (hs : t.size ≤ 400) (ho : r.ok t.data.toList) (hS : SignsIn w) :
    Calls Tryz.prog 146 #[ptr b, .int .u8 k] w fun x w' => x = .returned (.tuple #[]) ∧ RdAt B b w' t (Dsr.take t.data.toList r k) s ∧ Kp (· = b) w w' := by
  by_cases h0 : r.now.kind = k
  · have hd : decide (r.now.kind = k) = true := by simp [h0]
    have H0 : Hid (r.now.kind = k) := h0
    have H : Hid (RdAt B b w t r s) := h
    clear h h0
    go_enter Tryz.func146, Tryz.ntmps146
    go_wp2_with fail
    refine (takeIf_any k H.out hs ho hS).mono ?_
    rintro e w1 ⟨rfl, h1, h2⟩
    have H1 : Hid (RdAt B b w1 t (Dsr.takeIf t.data.toList r k) s ∧ Kp (· = b) w w1) := ⟨h1, h2⟩
    clear h1 h2
    go_wp2_with fail
    go_end0
    have e : Dsr.take t.data.toList r k = Dsr.takeIf t.data.toList r k := by rw [Dsr.take, Dsr.takeIf, if_pos H0.out, if_pos H0.out]
    exact ⟨rfl, by rw [e]; exact H1.out.1, H1.out.2⟩
  · have hd : decide (r.now.kind = k) = false := by simp [h0]
    have H0 : Hid (¬ r.now.kind = k) := h0
    have H : Hid (RdAt B b w t r s) := h
    clear h h0
    go_enter Tryz.func146, Tryz.ntmps146
    go_wp2_with fail
    refine (takeIf_any k H.out hs ho hS).mono ?_
    rintro e w1 ⟨rfl, h1, h2⟩
    have e1 : Dsr.takeIf t.data.toList r k = r := by rw [Dsr.takeIf, if_neg H0.out]
    rw [e1] at h1
    have H1 : Hid (RdAt B b w1 t r s ∧ Kp (· = b) w w1) := ⟨h1, h2⟩
    clear h1 h2 e1
    go_wp2_with fail
    refine (refuse_any 2 H1.out.1 hs).mono ?_
    rintro e w2 ⟨rfl, h3, h4⟩
    have H3 : Hid (RdAt B b w2 t (Dsr.refuse t.data.toList r 2) s ∧ Kp (· = b) w1 w2) := ⟨h3, h4⟩
    clear h3 h4
    go_wp2_with fail
    go_end0
    have e : Dsr.take t.data.toList r k = Dsr.refuse t.data.toList r 2 := by rw [Dsr.take, if_neg H0.out]
    exact ⟨rfl, by rw [e]; exact H3.out.1, H1.out.2.trans H3.out.2 (fun _ h => .inl h)⟩
end Go.Proofs.YtjmcokcdaddpcaaGreatDoor
set_option linter.unusedVariables false
set_option linter.unusedSimpArgs false
namespace Go.Proofs.YtjmcokcdaddpcaaGreatDoor
open Go.RowKit
theorem differ_left {x v : Option Nat} {g N : Nat} (h : Differ x v) (hx : ∀ k, x = some k → k < N) (hat : v = some g ∨ g = N) : Differ x (some g) := by
  rcases h with h | h
  · exact .inl h
  · rcases hat with rfl | rfl
    · exact .inr h
    · right; intro e; have := hx _ e; omega
theorem differ_right {y v : Option Nat} {g N : Nat} (h : Differ v y) (hy : ∀ k, y = some k → k < N) (hat : v = some g ∨ g = N) : Differ (some g) y := by
  right
  intro e
  rcases hat with rfl | rfl
  · rcases h with h | h
    · cases h
    · exact h e
  · have := hy _ e.symm; omega
/-- The shape of an owned slice. -/
theorem owned_shape {w : World} {base : Nat} {e : TypeId} {size : Nat} {v : Value} {n : Nat} {xs : List Value} (h : w.ownsRow base e size v n xs) : ∃ a c, v = .slice a n c := by
  rcases h.2 with ⟨rfl, rfl⟩ | ⟨g, cap, cur, rfl, _⟩
  · exact ⟨_, _, rfl⟩
  · exact ⟨_, _, rfl⟩
/-- One use more. -/
theorem RdAt.useAdd {B b : Nat} {w w' : World} {t : ByteArray} {r : Dsr.Rd} {s : St} (h : RdAt B b w t r s) (u : Dsr.Us) {g cap : Nat}
    (hown : w'.ownsRow B 199 4 (.slice (some ⟨g, 0, none⟩) (r.uses.length + 1) cap) (r.uses.length + 1) (r.uses.flatMap usC ++ usC u)) (hg : w.grownBy w' s.vu.ownBlock) (hat : s.vu.ownBlock = some g ∨ g = w.heap.size) :
    RdAt B b (w'.setCell ⟨b, 7, none⟩ (.slice (some ⟨g, 0, none⟩) (r.uses.length + 1) cap)) t { r with uses := r.uses ++ [u] } { s with vu := .slice (some ⟨g, 0, none⟩) (r.uses.length + 1) cap } := by
  have ha := h.apart
  simp only [List.pairwise_cons, List.forall_mem_cons] at ha
  obtain ⟨⟨b1, b2, b3, b4⟩, ⟨e1, e2, e3⟩, ⟨r1, r2⟩, u1, p⟩ := ha
  have hbN := h.lt
  have lb : ∀ k, some b = some k → k < w.heap.size := fun k hk => by cases hk; exact hbN
  have le : ∀ k, s.ve.ownBlock = some k → k < w.heap.size := fun k hk => (h.evs.lt k hk).2
  have lr : ∀ k, s.vr.ownBlock = some k → k < w.heap.size := fun k hk => (h.rls.lt k hk).2
  have lv : ∀ y, y ∈ s.rv.map Value.ownBlock → ∀ k, y = some k → k < w.heap.size := by
    intro y hy k hk
    obtain ⟨v, hv, rfl⟩ := List.mem_map.1 hy
    exact (h.rvOwn hv hk).2
  have keep : ∀ k, k < w.heap.size → some k ≠ s.vu.ownBlock → k ≠ b → (w'.setCell ⟨b, 7, none⟩ (.slice (some ⟨g, 0, none⟩) (r.uses.length + 1) cap)).heap[k]? = w.heap[k]? := fun k hk h1 h2 => by
    rw [heap_setCell_other _ _ _ _ h2]; exact hg.block k hk h1
  have ne : ∀ {x y : Option Nat} {k : Nat}, Differ x y → x = some k → y ≠ some k := fun {x y k} hd hx hy => by
    rcases hd with hd | hd
    · rw [hx] at hd; cases hd
    · exact hd (hx.trans hy.symm)
  have gb : g ≠ b := by
    rcases hat with e | e
    · exact fun hh => ne b3 rfl (by rw [e, hh])
    · omega
  have bu : some b ≠ s.vu.ownBlock := fun e => ne b3 rfl e.symm
  refine { pos := h.pos, low := h.low, len := h.len, blk := ?_, evs := ?_, rls := ?_, uss := ?_, rol := ?_, apart := ?_ }
  · rw [blk_set (by rw [hg.block b hbN bu]; exact h.blk)]
    simp [rdCells]
  · exact ownsRow_of_block h.evs fun k hk hv => keep k hk (fun e => ne e2 hv e.symm) (fun e => ne b1 rfl (by rw [hv, e]))
  · exact ownsRow_of_block h.rls fun k hk hv => keep k hk (fun e => ne r1 hv e.symm) (fun e => ne b2 rfl (by rw [hv, e]))
  · have hl : (r.uses ++ [u]).length = r.uses.length + 1 := by simp
    have hf : (r.uses ++ [u]).flatMap usC = r.uses.flatMap usC ++ usC u := by simp
    show World.ownsRow _ _ _ _ _ (r.uses ++ [u]).length ((r.uses ++ [u]).flatMap usC)
    rw [hl, hf]
    exact ownsRow_of_block hown fun k hk hv => heap_setCell_other _ _ _ _ (by simp [Value.ownBlock] at hv; show k ≠ b; omega)
  · intro i e v he hv
    have hm : v.ownBlock ∈ s.rv.map Value.ownBlock := List.mem_map.2 ⟨v, List.mem_of_getElem? hv, rfl⟩
    exact ownsRow_of_block (h.rol i e v he hv) fun k hk ho => keep k hk (fun e => ne (u1 _ hm) e.symm ho) (fun e => ne (b4 _ hm) rfl (by rw [ho, e]))
  · simp only [List.pairwise_cons, List.forall_mem_cons]
    exact ⟨⟨b1, b2, differ_left b3 lb hat, b4⟩, ⟨e1, differ_left e2 le hat, e3⟩, ⟨differ_left r1 lr hat, r2⟩, fun y hy => differ_right (u1 y hy) (lv y hy) hat, p⟩
end Go.Proofs.YtjmcokcdaddpcaaGreatDoor
namespace Go.Proofs.YtjmcokcdaddpcaaGreatDoor
open Go.RowKit
/-- From w to w' the reader has gone on to r', its uses' row alone and its own block turned. -/
structure MSt (B b : Nat) (w : World) (t : ByteArray) (s : St) (w' : World) (r' : Dsr.Rd) (s' : St) : Prop where
  rd : RdAt B b w' t r' s'
  ve : s'.ve = s.ve
  vr : s'.vr = s.vr
  rv : s'.rv = s.rv
  kp : Kp (Mine b s) w w'
  mine : ∀ k, Mine b s' k → Mine b s k ∨ w.heap.size ≤ k
theorem MSt.ofB {B b : Nat} {w w' : World} {t : ByteArray} {s : St} {r' : Dsr.Rd} (h : RdAt B b w' t r' s) (hk : Kp (· = b) w w') : MSt B b w t s w' r' s :=
  ⟨h, rfl, rfl, rfl, hk.mono (fun k e => .inl (.inl e)), fun k e => .inl e⟩
theorem MSt.trans {B b : Nat} {w w1 w2 : World} {t : ByteArray} {s s1 s2 : St} {r1 r2 : Dsr.Rd} (h : MSt B b w t s w1 r1 s1) (h' : MSt B b w1 t s1 w2 r2 s2) : MSt B b w t s w2 r2 s2 :=
  ⟨h'.rd, h'.ve.trans h.ve, h'.vr.trans h.vr, h'.rv.trans h.rv, h.kp.trans h'.kp h.mine, fun k hk => by
    rcases h'.mine k hk with h1 | h1
    · exact h.mine k h1
    · right; have := h.kp.size; omega⟩
theorem MSt.refl {B b : Nat} {w : World} {t : ByteArray} {s : St} {r : Dsr.Rd} (h : RdAt B b w t r s) : MSt B b w t s w r s := .ofB h (Kp.refl _ _)
theorem MSt.signs {B b : Nat} {w w' : World} {t : ByteArray} {s s' : St} {r r' : Dsr.Rd} (h : MSt B b w t s w' r' s') (h0 : RdAt B b w t r s) (hS : SignsIn w) : SignsIn w' :=
  hS.kp h.kp (fun hm => by have := h0.mine hm; have := h0.pos; omega)
/-- Memory that is made, and writes to blocks that are the reader's own in no way: the reader is as it was. -/
theorem MSt.aside {B b : Nat} {w w1 w2 : World} {t : ByteArray} {s s1 : St} {r1 : Dsr.Rd} {S : Nat → Prop} (h : MSt B b w t s w1 r1 s1) (h' : Kp S w1 w2) (hS : ∀ k, S k → w.heap.size ≤ k ∧ ¬ Mine b s1 k) (hr : ∀ v ∈ s.rv, ∀ k, v.ownBlock = some k → k < w.heap.size) : MSt B b w t s w2 r1 s1 :=
  ⟨h.rd.same (fun k hk _ hm => h'.block k hk (fun hs => by
    rcases hm with hm | ⟨v, hv, ho⟩
    · exact (hS k hs).2 hm
    · rw [h.rv] at hv; have := hr v hv k ho; have := (hS k hs).1; omega)), h.ve, h.vr, h.rv,
   h.kp.trans h' (fun k hs => .inr (hS k hs).1), h.mine⟩
theorem RdAt.rvLt {B b : Nat} {w : World} {t : ByteArray} {r : Dsr.Rd} {s : St} (h : RdAt B b w t r s) : ∀ v ∈ s.rv, ∀ k, v.ownBlock = some k → k < w.heap.size := fun v hv k hk => (h.rvOwn hv hk).2
end Go.Proofs.YtjmcokcdaddpcaaGreatDoor
namespace Go.Proofs.YtjmcokcdaddpcaaGreatDoor
open Go.RowKit
theorem differ_ne {x y : Option Nat} {k : Nat} (hd : Differ x y) (hx : x = some k) : y ≠ some k := fun hy => by
  rcases hd with hd | hd
  · rw [hx] at hd; cases hd
  · exact hd (hx.trans hy.symm)
theorem differ_symm {x y : Option Nat} (h : Differ x y) : Differ y x := by
  rcases h with h | h
  · rcases hy : y with _ | k
    · exact .inl rfl
    · right; rw [h]; simp
  · exact .inr (fun e => h e.symm)
theorem evCells_snoc : ∀ (es : List Dsr.Ev) (vs : List Value) (e : Dsr.Ev) (v : Value), vs.length = es.length → evCells (es ++ [e]) (vs ++ [v]) = evCells es vs ++ evC e v
  | [], [], e, v, _ => by simp [evCells]
  | a :: es, b :: vs, e, v, h => by
    show evC a b ++ evCells (es ++ [e]) (vs ++ [v]) = evC a b ++ evCells es vs ++ evC e v
    rw [evCells_snoc es vs e v (by simpa using h), List.append_assoc]
  | [], b :: vs, e, v, h => by simp at h
  | a :: es, [], e, v, h => by simp at h
/-- One rule more. -/
theorem RdAt.ruleAdd {B b : Nat} {w w' : World} {t : ByteArray} {r : Dsr.Rd} {s : St} (h : RdAt B b w t r s) (u : Dsr.Rl) {g cap : Nat}
    (hown : w'.ownsRow B 150 3 (.slice (some ⟨g, 0, none⟩) (r.rules.length + 1) cap) (r.rules.length + 1) (r.rules.flatMap rlC ++ rlC u)) (hg : w.grownBy w' s.vr.ownBlock) (hat : s.vr.ownBlock = some g ∨ g = w.heap.size) :
    RdAt B b (w'.setCell ⟨b, 6, none⟩ (.slice (some ⟨g, 0, none⟩) (r.rules.length + 1) cap)) t { r with rules := r.rules ++ [u] } { s with vr := .slice (some ⟨g, 0, none⟩) (r.rules.length + 1) cap } := by
  have ha := h.apart
  simp only [List.pairwise_cons, List.forall_mem_cons] at ha
  obtain ⟨⟨b1, b2, b3, b4⟩, ⟨e1, e2, e3⟩, ⟨r1, r2⟩, u1, p⟩ := ha
  have hbN := h.lt
  have lb : ∀ k, some b = some k → k < w.heap.size := fun k hk => by cases hk; exact hbN
  have le : ∀ k, s.ve.ownBlock = some k → k < w.heap.size := fun k hk => (h.evs.lt k hk).2
  have lu : ∀ k, s.vu.ownBlock = some k → k < w.heap.size := fun k hk => (h.uss.lt k hk).2
  have lv : ∀ y, y ∈ s.rv.map Value.ownBlock → ∀ k, y = some k → k < w.heap.size := by
    intro y hy k hk
    obtain ⟨v, hv, rfl⟩ := List.mem_map.1 hy
    exact (h.rvOwn hv hk).2
  have keep : ∀ k, k < w.heap.size → some k ≠ s.vr.ownBlock → k ≠ b → (w'.setCell ⟨b, 6, none⟩ (.slice (some ⟨g, 0, none⟩) (r.rules.length + 1) cap)).heap[k]? = w.heap[k]? := fun k hk h1 h2 => by
    rw [heap_setCell_other _ _ _ _ h2]; exact hg.block k hk h1
  have gb : g ≠ b := by
    rcases hat with e | e
    · exact fun hh => differ_ne b2 rfl (by rw [e, hh])
    · omega
  have bu : some b ≠ s.vr.ownBlock := fun e => differ_ne b2 rfl e.symm
  refine { pos := h.pos, low := h.low, len := h.len, blk := ?_, evs := ?_, rls := ?_, uss := ?_, rol := ?_, apart := ?_ }
  · rw [blk_set (by rw [hg.block b hbN bu]; exact h.blk)]
    simp [rdCells]
  · exact ownsRow_of_block h.evs fun k hk hv => keep k hk (fun e => differ_ne e1 hv e.symm) (fun e => differ_ne b1 rfl (by rw [hv, e]))
  · have hl : (r.rules ++ [u]).length = r.rules.length + 1 := by simp
    have hf : (r.rules ++ [u]).flatMap rlC = r.rules.flatMap rlC ++ rlC u := by simp
    show World.ownsRow _ _ _ _ _ (r.rules ++ [u]).length ((r.rules ++ [u]).flatMap rlC)
    rw [hl, hf]
    exact ownsRow_of_block hown fun k hk hv => heap_setCell_other _ _ _ _ (by simp [Value.ownBlock] at hv; show k ≠ b; omega)
  · exact ownsRow_of_block h.uss fun k hk hv => keep k hk (fun e => differ_ne r1 e.symm hv) (fun e => differ_ne b3 rfl (by rw [hv, e]))
  · intro i e v he hv
    have hm : v.ownBlock ∈ s.rv.map Value.ownBlock := List.mem_map.2 ⟨v, List.mem_of_getElem? hv, rfl⟩
    exact ownsRow_of_block (h.rol i e v he hv) fun k hk ho => keep k hk (fun e => differ_ne (r2 _ hm) e.symm ho) (fun e => differ_ne (b4 _ hm) rfl (by rw [ho, e]))
  · simp only [List.pairwise_cons, List.forall_mem_cons]
    exact ⟨⟨b1, differ_left b2 lb hat, b3, b4⟩, ⟨differ_left e1 le hat, e2, e3⟩, ⟨differ_right r1 lu hat, fun y hy => differ_right (r2 y hy) (lv y hy) hat⟩, u1, p⟩
/-- One event more, its roles' row beside. -/
theorem RdAt.eventAdd {B b : Nat} {w w' : World} {t : ByteArray} {r : Dsr.Rd} {s : St} (h : RdAt B b w t r s) (u : Dsr.Ev) (v : Value) {g cap : Nat}
    (hv : w.ownsRow B 9 1 v u.roles.length (u.roles.map strV)) (hd : ∀ k, v.ownBlock = some k → ¬ Mine b s k ∧ ∀ y ∈ s.rv, y.ownBlock ≠ some k)
    (hown : w'.ownsRow B 144 5 (.slice (some ⟨g, 0, none⟩) (r.events.length + 1) cap) (r.events.length + 1) (evCells r.events s.rv ++ evC u v)) (hg : w.grownBy w' s.ve.ownBlock) (hat : s.ve.ownBlock = some g ∨ g = w.heap.size) :
    RdAt B b (w'.setCell ⟨b, 5, none⟩ (.slice (some ⟨g, 0, none⟩) (r.events.length + 1) cap)) t { r with events := r.events ++ [u] } { s with ve := .slice (some ⟨g, 0, none⟩) (r.events.length + 1) cap, rv := s.rv ++ [v] } := by
  have ha := h.apart
  simp only [List.pairwise_cons, List.forall_mem_cons] at ha
  obtain ⟨⟨b1, b2, b3, b4⟩, ⟨e1, e2, e3⟩, ⟨r1, r2⟩, u1, p⟩ := ha
  have hbN := h.lt
  have lb : ∀ k, some b = some k → k < w.heap.size := fun k hk => by cases hk; exact hbN
  have lr : ∀ k, s.vr.ownBlock = some k → k < w.heap.size := fun k hk => (h.rls.lt k hk).2
  have lu : ∀ k, s.vu.ownBlock = some k → k < w.heap.size := fun k hk => (h.uss.lt k hk).2
  have lv : ∀ y, y ∈ s.rv.map Value.ownBlock → ∀ k, y = some k → k < w.heap.size := by
    intro y hy k hk
    obtain ⟨v, hv, rfl⟩ := List.mem_map.1 hy
    exact (h.rvOwn hv hk).2
  have lw : ∀ k, v.ownBlock = some k → k < w.heap.size := fun k hk => (hv.lt k hk).2
  have keep : ∀ k, k < w.heap.size → some k ≠ s.ve.ownBlock → k ≠ b → (w'.setCell ⟨b, 5, none⟩ (.slice (some ⟨g, 0, none⟩) (r.events.length + 1) cap)).heap[k]? = w.heap[k]? := fun k hk h1 h2 => by
    rw [heap_setCell_other _ _ _ _ h2]; exact hg.block k hk h1
  have gb : g ≠ b := by
    rcases hat with e | e
    · exact fun hh => differ_ne b1 rfl (by rw [e, hh])
    · omega
  have bu : some b ≠ s.ve.ownBlock := fun e => differ_ne b1 rfl e.symm
  have dv : ∀ x : Option Nat, (∀ k, x = some k → Mine b s k) → Differ x v.ownBlock := fun x hx => by
    rcases hxx : x with _ | k
    · exact .inl rfl
    · exact .inr (fun e => (hd k e.symm).1 (hx k hxx))
  refine { pos := h.pos, low := h.low, len := by simp [h.len], blk := ?_, evs := ?_, rls := ?_, uss := ?_, rol := ?_, apart := ?_ }
  · rw [blk_set (by rw [hg.block b hbN bu]; exact h.blk)]
    simp [rdCells]
  · have hl : (r.events ++ [u]).length = r.events.length + 1 := by simp
    show World.ownsRow _ _ _ _ _ (r.events ++ [u]).length (evCells (r.events ++ [u]) (s.rv ++ [v]))
    rw [hl, evCells_snoc _ _ _ _ h.len]
    exact ownsRow_of_block hown fun k hk hv => heap_setCell_other _ _ _ _ (by simp [Value.ownBlock] at hv; show k ≠ b; omega)
  · exact ownsRow_of_block h.rls fun k hk hv => keep k hk (fun e => differ_ne e1 e.symm hv) (fun e => differ_ne b2 rfl (by rw [hv, e]))
  · exact ownsRow_of_block h.uss fun k hk hv => keep k hk (fun e => differ_ne e2 e.symm hv) (fun e => differ_ne b3 rfl (by rw [hv, e]))
  · intro i e y he hy
    by_cases hi : i < r.events.length
    · have he' : r.events[i]? = some e := by rw [← he]; exact (List.getElem?_append_left hi).symm
      have hy' : s.rv[i]? = some y := by rw [← hy]; exact (List.getElem?_append_left (by rw [h.len]; exact hi)).symm
      have hm : y.ownBlock ∈ s.rv.map Value.ownBlock := List.mem_map.2 ⟨y, List.mem_of_getElem? hy', rfl⟩
      exact ownsRow_of_block (h.rol i e y he' hy') fun k hk ho => keep k hk (fun e => differ_ne (e3 _ hm) e.symm ho) (fun e => differ_ne (b4 _ hm) rfl (by rw [ho, e]))
    · have hi' : i = r.events.length := by
        have := (List.getElem?_eq_some_iff.1 he).1
        simp at this; omega
      subst hi'
      have he' : u = e := by simpa using he
      have hy' : v = y := by have := hy; rw [← h.len] at this; simpa using this
      subst he' hy'
      exact ownsRow_of_block hv fun k hk ho => keep k hk (fun e => (hd k ho).1 (.inr (.inl e.symm))) (fun e => (hd k ho).1 (.inl e))
  · have hvv : ∀ y ∈ s.rv.map Value.ownBlock, Differ y v.ownBlock := by
      intro y hy
      obtain ⟨z, hz, rfl⟩ := List.mem_map.1 hy
      rcases hzz : z.ownBlock with _ | k
      · exact .inl rfl
      · exact .inr (fun e => (hd k e.symm).2 z hz hzz)
    have dg : Differ (some g) v.ownBlock := by
      right
      intro e
      rcases hat with h1 | h1
      · exact (hd g e.symm).1 (.inr (.inl h1))
      · have := lw g e.symm; omega
    simp only [List.map_append, List.map_cons, List.map_nil, List.pairwise_cons, List.pairwise_append, List.forall_mem_cons, List.forall_mem_append]
    refine ⟨⟨differ_left b1 lb hat, b2, b3, b4, dv _ (fun k e => .inl (by cases e; rfl)), by simp⟩, ⟨differ_right e1 lr hat, differ_right e2 lu hat, fun y hy => differ_right (e3 y hy) (lv y hy) hat, dg, by simp⟩, ⟨r1, r2, dv _ (fun k e => .inr (.inr (.inl e))), by simp⟩, ⟨u1, dv _ (fun k e => .inr (.inr (.inr e))), by simp⟩, p, by simp, ?_⟩
    intro y hy
    exact ⟨hvv y hy, by simp⟩
end Go.Proofs.YtjmcokcdaddpcaaGreatDoor
