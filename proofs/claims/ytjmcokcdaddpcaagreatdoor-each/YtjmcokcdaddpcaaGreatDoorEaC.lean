import Derived.Test.YtjmcokcdaddpcaaGreatDoorEaB
import Derived.Test.YtjmcokcdaddpcaaGreatDoorUh
set_option linter.unusedVariables false
set_option linter.unusedSimpArgs false
namespace Go.Proofs.YtjmcokcdaddpcaaGreatDoor
open Go.RowKit
theorem mk3_mark {o : Option Dsr.Ev} {d i u : Bool} (h : mk3 o d i u = true) : markOf o = markV d i u ∧ markE o = 0 := by
  cases o with
  | none => simp [mk3] at h
  | some e =>
    simp [mk3] at h
    obtain ⟨⟨h1, h2⟩, h3⟩ := h
    subst h1 h2 h3
    exact ⟨rfl, rfl⟩
structure EFacts (k n : Nat) : Prop where
  m1 : markOf (Dsr.findE (ec0 k n).es [98]) = markV (decide (n / 4 % 2 = 1)) (decide (n % 2 = 0)) (decide (n / 2 % 2 = 1)) ∧ markE (Dsr.findE (ec0 k n).es [98]) = 0
  v1 : (er1 k n).1 = eV1 k n
  e1 : (er1 k n).2.2.1 = 0
  s1 : (Dsr.settleP (er1 k n).2.2.2).1 = 0
  v2 : (er2 k n).1 = 0
  e2 : (er2 k n).2.2.1 = 0
  s2 : (Dsr.settleP (er2 k n).2.2.2).1 = 0
  m4 : markOf (Dsr.findE (ec4 k n).es [98]) = markV (eDone k n) (eInn k n) (eDue k n) ∧ markE (Dsr.findE (ec4 k n).es [98]) = 0
  a4 : markOf (Dsr.findE (ec4 k n).es [97]) = markV true true false ∧ markE (Dsr.findE (ec4 k n).es [97]) = 0
  ac : Dsr.acceptingP (ec4 k n).es = !(eInn k n && eDue k n)
  e3 : (er3 k n).2.2.1 = 0
  v3 : (er3 k n).1 = if eInn k n then 0 else 3
theorem e_facts {k n : Nat} (hk : k < 5) (hn : n < 8) : EFacts k n := by
  have h := e_chk k hk n hn
  unfold eChk at h
  simp only [Bool.and_eq_true, beq_iff_eq] at h
  obtain ⟨⟨⟨⟨⟨⟨⟨⟨⟨⟨⟨h1, h2⟩, h3⟩, h4⟩, h5⟩, h6⟩, h7⟩, h8⟩, h9⟩, h10⟩, h11⟩, h12⟩ := h
  exact ⟨mk3_mark h1, h2, h3, h4, h5, h6, h7, mk3_mark h8, mk3_mark h9, h10, h11, h12⟩
theorem sign_cells (w : World) {k : Nat} (hk : k < 5) (T : TypeId) : (w.alloc (.cells #[strV (eSign 0), strV (eSign 1), strV (eSign 2), strV (eSign 3), strV (eSign 4)] T)).cell? ⟨w.heap.size, k, none⟩ = some (strV (eSign k)) := by
  rw [cell_of_row _ _ _ _ _ _ (heap_alloc_new w _)]
  rcases k with _ | _ | _ | _ | _ | k
  · rfl
  · rfl
  · rfl
  · rfl
  · rfl
  · omega
/-- Each, under way. -/
structure EMid (w wj : World) (cb M : Nat) (a : SA) (c : Dsr.Cs) (wb : Option Nat) : Prop where
  cs : CsAt M wj cb c a wb
  bel : Below w.heap.size w wj
  far : ∀ x, CFoot c a cb wb x → w.heap.size ≤ x
theorem EMid.aside {w wj wl : World} {cb M : Nat} {a : SA} {c : Dsr.Cs} {wb : Option Nat} (h : EMid w wj cb M a c wb) (hb : Below wj.heap.size wj wl) : EMid w wl cb M a c wb :=
  ⟨h.cs.below hb, h.bel.trans (hb.mono h.bel.size), h.far⟩
/-- A block that is the caller's own. -/
def Own3 (wj : World) (b : Nat) (d i u : Bool) : Prop := wj.heap[b]? = some (.cells #[.bool d, .bool i, .bool u] 48 (0, 0))
theorem sign_at {k : Nat} (hk : k < 5) {h : k < [Value.string ⟨#[45, 62, 42]⟩, Value.string ⟨#[45, 62, 60, 62]⟩, Value.string ⟨#[42, 45, 62]⟩, Value.string ⟨#[45, 62, 43]⟩, Value.string ⟨#[45, 62, 37]⟩].length} : [Value.string ⟨#[45, 62, 42]⟩, Value.string ⟨#[45, 62, 60, 62]⟩, Value.string ⟨#[42, 45, 62]⟩, Value.string ⟨#[45, 62, 43]⟩, Value.string ⟨#[45, 62, 37]⟩][k] = strV (eSign k) := by
  rcases k with _ | _ | _ | _ | _ | k
  · rfl
  · rfl
  · rfl
  · rfl
  · rfl
  · omega
theorem own_cells {w : World} {b : Nat} {d i u : Bool} (h : Own3 w b d i u) : w.cell? ⟨b, 0, none⟩ = some (.bool d) ∧ w.cell? ⟨b, 1, none⟩ = some (.bool i) ∧ w.cell? ⟨b, 2, none⟩ = some (.bool u) ∧ (∀ o, w.frozen? ⟨b, o, none⟩ = false) ∧ b < w.heap.size := by
  have hb : w.heap[b]? = some (.cells #[.bool d, .bool i, .bool u] 48 (0, 0)) := h
  obtain ⟨c0, c1, c2, cf⟩ := cells3S hb
  exact ⟨c0, c1, c2, cf, (Array.getElem?_eq_some_iff.1 hb).1⟩
theorem Own3.kp {S : Nat → Prop} {w w' : World} {b : Nat} {d i u : Bool} (h : Own3 w b d i u) (hk : Kp S w w') (hS : ¬ S b) : Own3 w' b d i u := (hk.block b (Array.getElem?_eq_some_iff.1 h).1 hS).trans h
theorem Own3.below {w w' : World} {b : Nat} {d i u : Bool} (h : Own3 w b d i u) (hb : Below w.heap.size w w') : Own3 w' b d i u := (hb.block b (Array.getElem?_eq_some_iff.1 h).1).trans h
/-- All that a call of the case may turn lies below a block. -/
def Under (cb : Nat) (a : SA) (b : Nat) : Prop := (∀ x, (x = cb ∨ x ∈ a.eb) → x < b) ∧ ∀ x, Foot [] [] a x → x < b
section
variable {w w2 w3 w4 w5 : World} {cb M : Nat} {a : SA} {c : Dsr.Cs} {wb : Option Nat}
theorem EMid.under (h : EMid w w2 cb M a c wb) : Under cb a w2.heap.size := by
  refine ⟨fun x hx => ?_, fun x hx => ?_⟩
  · rcases hx with rfl | hx
    · exact h.cs.lt
    · exact (h.cs.st.ebLt hx).2
  · have hk : Foot c.es c.rs a x := foot_iff.2 (foot_iff.1 hx)
    rcases hk with hk | ⟨v, hv, hvb⟩
    · exact (h.cs.st.rows.lt hk).2
    · obtain ⟨i, e, he, hvi⟩ := h.cs.st.rvAt hv
      obtain ⟨⟨B', ho⟩, hl⟩ := h.cs.st.rol i e v he hvi
      exact (ho.lt x hvb).2
/-- A cell of a block of the caller's own is written. -/
theorem EMid.put (h : EMid w w2 cb M a c none) {b : Nat} (hu : Under cb a b) (hb : w.heap.size ≤ b) (o : Nat) (v : Value) : EMid w (w2.setCell ⟨b, o, none⟩ v) cb M a c none :=
  ⟨h.cs.kp (S := fun k => k = b) ((Kp.refl (fun k => k = b) w2).setCell (a := ⟨b, o, none⟩) (.inl rfl) v) (fun k hk hf => by
    subst hk
    rcases hf with hf | hf | hf
    · have := hu.1 k (.inl hf); omega
    · cases hf
    · have := hu.2 k (foot_iff.2 (foot_iff.1 hf)); omega), h.bel.setCell hb v, h.far⟩
theorem Own3.other {b b' o : Nat} {d i u : Bool} {v : Value} (h : Own3 w b d i u) (hne : b ≠ b') : Own3 (w.setCell ⟨b', o, none⟩ v) b d i u := (heap_setCell_other _ _ _ _ hne).trans h
theorem Own3.set0 {b : Nat} {d i u x : Bool} (h : Own3 w b d i u) : Own3 (w.setCell ⟨b, 0, none⟩ (.bool x)) b x i u := by
  unfold Own3; rw [blk_set h]; rfl
theorem Own3.set1 {b : Nat} {d i u x : Bool} (h : Own3 w b d i u) : Own3 (w.setCell ⟨b, 1, none⟩ (.bool x)) b d x u := by
  unfold Own3; rw [blk_set h]; rfl
theorem Own3.set2 {b : Nat} {d i u x : Bool} (h : Own3 w b d i u) : Own3 (w.setCell ⟨b, 2, none⟩ (.bool x)) b d i x := by
  unfold Own3; rw [blk_set h]; rfl
theorem after_mark {d i u : Bool} (h : EMid w w2 cb M a c wb) (hcb : cb < w2.heap.size) (b3 : Below (w2.alloc (.cells #[.bool d, .bool i, .bool u] 48)).heap.size (w2.alloc (.cells #[.bool d, .bool i, .bool u] 48)) w3) :
    Hid (EMid w w3 cb M a c wb ∧ (Own3 w3 w2.heap.size d i u ∧ Under cb a w2.heap.size)) ∧ (w3.cell? ⟨w2.heap.size, 0, none⟩ = some (.bool d) ∧ w3.cell? ⟨w2.heap.size, 1, none⟩ = some (.bool i) ∧ w3.cell? ⟨w2.heap.size, 2, none⟩ = some (.bool u) ∧ (∀ o, w3.frozen? ⟨w2.heap.size, o, none⟩ = false) ∧ w2.heap.size < w3.heap.size) := by
  have o : Own3 w3 w2.heap.size d i u := (b3.block _ (by simp)).trans (heap_alloc_new _ _)
  exact ⟨⟨h.aside (below_alloc b3), o, h.under⟩, own_cells o⟩
theorem after_ask {d i u d' i' u' : Bool} {b : Nat} {c' : Dsr.Cs} {v : Value} {bs : List UInt8} (h : EMid w w3 cb M a c wb) (ho : Own3 w3 b d i u ∧ Under cb a b) (A : AskS M (w3.alloc (.cells #[.bool d', .bool i', .bool u'] 48)) w4 cb c' a wb v bs) :
    ∃ wb', Hid (EMid w w4 cb M a c' wb' ∧ (Own3 w4 b d i u ∧ Under cb a b) ∧ Own3 w4 w3.heap.size d' i' u' ∧ Under cb a w3.heap.size) ∧ (w4.cell? ⟨b, 0, none⟩ = some (.bool d) ∧ w4.cell? ⟨b, 1, none⟩ = some (.bool i) ∧ w4.cell? ⟨b, 2, none⟩ = some (.bool u) ∧ (∀ o, w4.frozen? ⟨b, o, none⟩ = false) ∧ b < w4.heap.size) ∧ (w4.cell? ⟨w3.heap.size, 0, none⟩ = some (.bool d') ∧ w4.cell? ⟨w3.heap.size, 1, none⟩ = some (.bool i') ∧ w4.cell? ⟨w3.heap.size, 2, none⟩ = some (.bool u') ∧ (∀ o, w4.frozen? ⟨w3.heap.size, o, none⟩ = false) ∧ w3.heap.size < w4.heap.size) := by
  obtain ⟨wb', hC, hw'⟩ := A.cs
  have hA := h.aside (below_alloc1S (.cells #[.bool d', .bool i', .bool u'] 48))
  have hu := h.under
  have o1 : Own3 w4 b d i u := (ho.1.below (below_alloc1S _)).kp A.kp (fun e => by have := ho.2.1 cb (.inl rfl); omega)
  have o2 : Own3 w4 w3.heap.size d' i' u' := Own3.kp (heap_alloc_new _ _) A.kp (fun e => by have := hu.1 cb (.inl rfl); omega)
  have hsz := hA.bel.size
  refine ⟨wb', ⟨⟨hC, hA.bel.trans (A.kp.below hsz (fun k hk => by rw [hk]; exact h.far cb (.inl rfl))), fun x hx => ?_⟩, ⟨o1, ho.2⟩, o2, hu⟩, own_cells o1, own_cells o2⟩
  rcases hx with rfl | hx | hx
  · exact h.far x (.inl rfl)
  · rcases hw' x hx with h1 | h1
    · exact h.far x (.inr (.inl h1))
    · omega
  · exact h.far x (.inr (.inr (foot_iff.2 (foot_iff.1 hx))))
theorem after_settle {d i u d' i' u' : Bool} {b b' : Nat} {c' : Dsr.Cs} (h : EMid w w4 cb M a c wb ∧ (Own3 w4 b d i u ∧ Under cb a b) ∧ Own3 w4 b' d' i' u' ∧ Under cb a b') (C : CsAt M w5 cb c' a none) (K : Kp (fun k => k = cb ∨ k ∈ a.eb) w4 w5) :
    Hid (EMid w w5 cb M a c' none ∧ (Own3 w5 b d i u ∧ Under cb a b) ∧ Own3 w5 b' d' i' u' ∧ Under cb a b') ∧ (w5.cell? ⟨b, 0, none⟩ = some (.bool d) ∧ w5.cell? ⟨b, 1, none⟩ = some (.bool i) ∧ w5.cell? ⟨b, 2, none⟩ = some (.bool u) ∧ (∀ o, w5.frozen? ⟨b, o, none⟩ = false) ∧ b < w5.heap.size) ∧ (w5.cell? ⟨b', 0, none⟩ = some (.bool d') ∧ w5.cell? ⟨b', 1, none⟩ = some (.bool i') ∧ w5.cell? ⟨b', 2, none⟩ = some (.bool u') ∧ (∀ o, w5.frozen? ⟨b', o, none⟩ = false) ∧ b' < w5.heap.size) := by
  obtain ⟨hE, ⟨o1, u1⟩, o2, u2⟩ := h
  have p1 := o1.kp K (fun hx => by have := u1.1 b hx; omega)
  have p2 := o2.kp K (fun hx => by have := u2.1 b' hx; omega)
  refine ⟨⟨⟨C, hE.bel.trans (K.below hE.bel.size (fun k hk => ?_)), fun x hx => ?_⟩, ⟨p1, u1⟩, p2, u2⟩, own_cells p1, own_cells p2⟩
  · rcases hk with rfl | hk
    · exact hE.far k (.inl rfl)
    · exact hE.far k (.inr (.inr (foot_iff.2 (.inr (.inl hk)))))
  · rcases hx with rfl | hx | hx
    · exact hE.far x (.inl rfl)
    · cases hx
    · exact hE.far x (.inr (.inr (foot_iff.2 (foot_iff.1 hx))))
/-- The case, and two blocks of the caller's own. -/
def Two (w wj : World) (cb M : Nat) (a : SA) (c : Dsr.Cs) (wb : Option Nat) (b b' : Nat) (d i u d' i' u' : Bool) : Prop := EMid w wj cb M a c wb ∧ (Own3 wj b d i u ∧ Under cb a b) ∧ Own3 wj b' d' i' u' ∧ Under cb a b'
theorem Two.cells {b b' : Nat} {d i u d' i' u' : Bool} (h : Two w w5 cb M a c wb b b' d i u d' i' u') : (w5.cell? ⟨b, 0, none⟩ = some (.bool d) ∧ w5.cell? ⟨b, 1, none⟩ = some (.bool i) ∧ w5.cell? ⟨b, 2, none⟩ = some (.bool u) ∧ (∀ o, w5.frozen? ⟨b, o, none⟩ = false) ∧ b < w5.heap.size) ∧ (w5.cell? ⟨b', 0, none⟩ = some (.bool d') ∧ w5.cell? ⟨b', 1, none⟩ = some (.bool i') ∧ w5.cell? ⟨b', 2, none⟩ = some (.bool u') ∧ (∀ o, w5.frozen? ⟨b', o, none⟩ = false) ∧ b' < w5.heap.size) := ⟨own_cells h.2.1.1, own_cells h.2.2.1⟩
theorem Two.aside {b b' : Nat} {d i u d' i' u' : Bool} (h : Two w w4 cb M a c wb b b' d i u d' i' u') (hb : Below w4.heap.size w4 w5) : Two w w5 cb M a c wb b b' d i u d' i' u' := ⟨h.1.aside hb, ⟨h.2.1.1.below hb, h.2.1.2⟩, h.2.2.1.below hb, h.2.2.2⟩
theorem Two.put02 {b b' : Nat} {d i u d' i' u' : Bool} (h : Two w w5 cb M a c none b b' d i u d' i' u') (hb : w.heap.size ≤ b) (hne : b' ≠ b) (x y : Bool) : Two w ((w5.setCell ⟨b, 0, none⟩ (.bool x)).setCell ⟨b, 2, none⟩ (.bool y)) cb M a c none b b' x i y d' i' u' :=
  ⟨(h.1.put h.2.1.2 hb _ _).put h.2.1.2 hb _ _, ⟨h.2.1.1.set0.set2, h.2.1.2⟩, (h.2.2.1.other hne).other hne, h.2.2.2⟩
theorem Two.put012 {b b' : Nat} {d i u d' i' u' : Bool} (h : Two w w5 cb M a c none b b' d i u d' i' u') (hb : w.heap.size ≤ b') (hne : b ≠ b') (x y z : Bool) : Two w (((w5.setCell ⟨b', 0, none⟩ (.bool x)).setCell ⟨b', 1, none⟩ (.bool y)).setCell ⟨b', 2, none⟩ (.bool z)) cb M a c none b b' d i u x y z :=
  ⟨((h.1.put h.2.2.2 hb _ _).put h.2.2.2 hb _ _).put h.2.2.2 hb _ _, ⟨((h.2.1.1.other hne).other hne).other hne, h.2.1.2⟩, h.2.2.1.set0.set1.set2, h.2.2.2⟩
theorem Two.put1 {b b' : Nat} {d i u d' i' u' : Bool} (h : Two w w5 cb M a c none b b' d i u d' i' u') (hb : w.heap.size ≤ b) (hne : b' ≠ b) (x : Bool) : Two w (w5.setCell ⟨b, 1, none⟩ (.bool x)) cb M a c none b b' d x u d' i' u' :=
  ⟨h.1.put h.2.1.2 hb _ _, ⟨h.2.1.1.set1, h.2.1.2⟩, h.2.2.1.other hne, h.2.2.2⟩
theorem Two.put2 {b b' : Nat} {d i u d' i' u' : Bool} (h : Two w w5 cb M a c none b b' d i u d' i' u') (hb : w.heap.size ≤ b) (hne : b' ≠ b) (x : Bool) : Two w (w5.setCell ⟨b, 2, none⟩ (.bool x)) cb M a c none b b' d i x d' i' u' :=
  ⟨h.1.put h.2.1.2 hb _ _, ⟨h.2.1.1.set2, h.2.1.2⟩, h.2.2.1.other hne, h.2.2.2⟩
theorem Two.ask {b b' : Nat} {d i u d' i' u' : Bool} {c' : Dsr.Cs} {v : Value} {bs : List UInt8} (h : Two w w4 cb M a c wb b b' d i u d' i' u') (A : AskS M w4 w5 cb c' a wb v bs) : ∃ wb', Two w w5 cb M a c' wb' b b' d i u d' i' u' := by
  obtain ⟨wb', hC, hw'⟩ := A.cs
  obtain ⟨hE, ⟨o1, u1⟩, o2, u2⟩ := h
  refine ⟨wb', ⟨hC, hE.bel.trans (A.kp.below hE.bel.size (fun k hk => by rw [hk]; exact hE.far cb (.inl rfl))), fun x hx => ?_⟩, ⟨o1.kp A.kp (fun e => by have := u1.1 cb (.inl rfl); omega), u1⟩, o2.kp A.kp (fun e => by have := u2.1 cb (.inl rfl); omega), u2⟩
  rcases hx with rfl | hx | hx
  · exact hE.far x (.inl rfl)
  · rcases hw' x hx with h1 | h1
    · exact hE.far x (.inr (.inl h1))
    · have := hE.bel.size; omega
  · exact hE.far x (.inr (.inr (foot_iff.2 (foot_iff.1 hx))))
end
end Go.Proofs.YtjmcokcdaddpcaaGreatDoor
