import Derived.Test.YtjmcokcdaddpcaaGreatDoorPoA
import Derived.Test.YtjmcokcdaddpcaaGreatDoorPureA
set_option linter.unusedVariables false
set_option linter.unusedSimpArgs false
namespace Go.Proofs.YtjmcokcdaddpcaaGreatDoor
open Go.RowKit
theorem zip_ex : ∀ (es : List Dsr.Ev) (rv : List Value), rv.length = es.length → (∀ v ∈ rv, ∃ a n c, v = .slice a n c) → ∃ ps : List EvS, ps.map (·.1) = es ∧ ps.map (fun p => slV p.2) = rv
  | [], [], _, _ => ⟨[], rfl, rfl⟩
  | [], _ :: _, h, _ => by simp at h
  | _ :: _, [], h, _ => by simp at h
  | e :: es, v :: rv, h, hv => by
    obtain ⟨a, n, c, hvv⟩ := hv v (by simp)
    obtain ⟨ps, h1, h2⟩ := zip_ex es rv (by simpa using h) (fun x hx => hv x (by simp [hx]))
    exact ⟨(e, a, n, c) :: ps, by simp [h1], by rw [List.map_cons, h2, hvv]; rfl⟩
theorem evCells_flat : ∀ ps : List EvS, evCells (ps.map (·.1)) (ps.map (fun p => slV p.2)) = ps.flatMap encE
  | [] => rfl
  | p :: ps => by
    show evC p.1 (slV p.2) ++ evCells _ _ = _
    rw [evCells_flat ps]; rfl
/-- The graph that the reader has gathered, copied. -/
theorem RdAt.graph {B b : Nat} {w : World} {t : ByteArray} {r : Dsr.Rd} {s : St} (h : RdAt B b w t r s) : ∃ ps : List EvS, ps.map (·.1) = r.events ∧ GS B w.heap.size (w.alloc (.cells #[s.ve, s.vr] 91)) ps r.rules s.ve s.vr := by
  obtain ⟨ps, h1, h2⟩ := zip_ex r.events s.rv h.len (fun v hv => by
    obtain ⟨i, hi, rfl⟩ := List.getElem_of_mem hv
    have hie : i < r.events.length := by rw [← h.len]; exact hi
    obtain ⟨a, c, e⟩ := owned_shape (h.rol i r.events[i] s.rv[i] (List.getElem?_eq_getElem hie) (List.getElem?_eq_getElem hi))
    exact ⟨a, _, c, e⟩)
  refine ⟨ps, h1, ?_⟩
  have hl : ps.length = r.events.length := by rw [← h1]; simp
  have hbn := h.lt
  have hlow := h.low
  have ha := h.apart
  simp only [List.pairwise_cons, List.forall_mem_cons] at ha
  obtain ⟨⟨b1, b2, b3, b4⟩, ⟨e1, e2, e3⟩, ⟨r1, r2⟩, u1, p⟩ := ha
  have dG : ∀ x : Option Nat, (∀ k, x = some k → k < w.heap.size) → Differ (some w.heap.size) x := fun x hx => .inr (fun e => by have := hx _ e.symm; omega)
  have hown : ps.map (fun p => (slV p.2).ownBlock) = s.rv.map Value.ownBlock := by rw [← h2, List.map_map]; rfl
  refine ⟨by omega, heap_alloc_new _ _, ?_, h.rls.alloc _, ?_, ?_⟩
  · have := h.evs.alloc (.cells #[s.ve, s.vr] 91)
    rw [← h1, ← h2, evCells_flat] at this
    simpa using this
  · intro q hq
    obtain ⟨i, hi, rfl⟩ := List.getElem_of_mem hq
    have hie : i < r.events.length := by omega
    have hir : i < s.rv.length := by rw [h.len]; exact hie
    have x1 : r.events[i] = ps[i].1 := by
      have : (ps.map (·.1))[i]'(by simpa using hi) = r.events[i] := by simp only [h1]
      rw [← this]; simp
    have x2 : s.rv[i] = slV ps[i].2 := by
      have : (ps.map (fun p => slV p.2))[i]'(by simpa using hi) = s.rv[i] := by simp only [h2]
      rw [← this]; simp
    have := h.rol i r.events[i] s.rv[i] (List.getElem?_eq_getElem hie) (List.getElem?_eq_getElem hir)
    rw [x1, x2] at this
    exact this.alloc _
  · rw [hown]
    simp only [List.pairwise_cons, List.forall_mem_cons]
    exact ⟨⟨dG _ (fun k hk => (h.evs.lt k hk).2), dG _ (fun k hk => (h.rls.lt k hk).2), fun y hy => dG _ (fun k hk => by
      obtain ⟨v, hv, rfl⟩ := List.mem_map.1 hy
      exact (h.rvOwn hv hk).2)⟩, ⟨e1, e3⟩, r2, p⟩
/-- A graph in order. -/
def OrdG (r : Dsr.Rd) (es : List Dsr.Ev) (rs : List Dsr.Rl) : Prop :=
  ∃ (es0 : List Dsr.Ev) (rs0 : List Dsr.Rl), es0.Perm r.events ∧ es0.Pairwise (fun a b => 0 ≤ Dsr.cmpB b.name a.name) ∧ es = es0.map (fun e => { e with roles := e.roles.mergeSort fun x y => decide (x ≤ y) }) ∧ rs0.Perm r.rules ∧ rs0.Pairwise (fun a b => 0 ≤ cmpRl b a) ∧ rs = Dsr.compact eqRl rs0
theorem compact_mem {α : Type} {eq : α → α → Bool} : ∀ (l : List α) (p x : α), x ∈ Dsr.compactFrom eq p l → x ∈ l
  | [], _, x, h => by simp [Dsr.compactFrom] at h
  | y :: l, p, x, h => by
    unfold Dsr.compactFrom at h
    split at h
    · exact List.mem_cons_of_mem _ (compact_mem l p x h)
    · rcases List.mem_cons.1 h with rfl | h
      · exact List.mem_cons_self
      · exact List.mem_cons_of_mem _ (compact_mem l y x h)
theorem compact_len {α : Type} {eq : α → α → Bool} : ∀ (l : List α) (p : α), (Dsr.compactFrom eq p l).length ≤ l.length
  | [], _ => Nat.le_refl _
  | y :: l, p => by
    unfold Dsr.compactFrom
    split
    · have := compact_len (eq := eq) l p; simp; omega
    · have := compact_len (eq := eq) l y; simp; omega
theorem compact_mem' {α : Type} {eq : α → α → Bool} (l : List α) (x : α) (h : x ∈ Dsr.compact eq l) : x ∈ l := by
  rcases l with _ | ⟨y, l⟩
  · exact h
  · rcases List.mem_cons.1 h with rfl | h
    · exact List.mem_cons_self
    · exact List.mem_cons_of_mem _ (compact_mem l y x h)
theorem compact_len' {α : Type} {eq : α → α → Bool} (l : List α) : (Dsr.compact eq l).length ≤ l.length := by
  rcases l with _ | ⟨y, l⟩
  · exact Nat.le_refl _
  · have := compact_len (eq := eq) l y; simp [Dsr.compact]; omega
theorem flat_bound {α : Type} (f : α → List UInt8) (M : Nat) : ∀ l : List α, (∀ x ∈ l, (f x).length ≤ M) → (l.flatMap f).length ≤ l.length * M
  | [], _ => by simp
  | a :: l, h => by
    rw [List.flatMap_cons, List.length_append, List.length_cons, Nat.succ_mul]
    have := flat_bound f M l (fun x hx => h x (by simp [hx]))
    have := h a (by simp)
    omega
theorem small_of {r : Dsr.Rd} {es : List Dsr.Ev} {rs : List Dsr.Rl} (h : OrdG r es rs) (ho : Dsr.RdOk 400 r) (he : r.events.length ≤ 10) (hr : r.rules.length ≤ 20) : Small es rs := by
  obtain ⟨es0, rs0, hpe, _, rfl, hpr, _, rfl⟩ := h
  have hev : ∀ e ∈ es0.map (fun e => ({ e with roles := e.roles.mergeSort fun x y => decide (x ≤ y) } : Dsr.Ev)), Dsr.EvOk 400 e := by
    intro e hm
    obtain ⟨e0, hm0, rfl⟩ := List.mem_map.1 hm
    have k := ho.ev e0 (hpe.mem_iff.1 hm0)
    exact ⟨k.name, by simp [List.length_mergeSort]; exact k.some, by simp [List.length_mergeSort]; exact k.few, fun x hx => k.role x (by simpa using hx)⟩
  have hru : ∀ e ∈ Dsr.compact eqRl rs0, Dsr.RlOk 400 e := fun e hm => ho.ru e (hpr.mem_iff.1 (compact_mem' _ _ hm))
  have hel : (es0.map (fun e => ({ e with roles := e.roles.mergeSort fun x y => decide (x ≤ y) } : Dsr.Ev))).length ≤ 10 := by rw [List.length_map, hpe.length_eq]; exact he
  have hrl : (Dsr.compact eqRl rs0).length ≤ 20 := by have := compact_len' (eq := eqRl) rs0; have := hpr.length_eq; omega
  have hj : ∀ e ∈ es0.map (fun e => ({ e with roles := e.roles.mergeSort fun x y => decide (x ≤ y) } : Dsr.Ev)), (Dsr.joinC e.roles).length ≤ 2412 := fun e hm => by
    have k := hev e hm
    have := Dsr.join_len e.roles 400 k.role
    have := Nat.mul_le_mul_right 402 k.few
    omega
  refine ⟨fun e hm => ⟨(hev e hm).some, by have := (hev e hm).few; omega, by have := hj e hm; omega, by have := (hev e hm).name; omega⟩, fun e hm => ⟨(hru e hm).kind, by have := (hru e hm).left; omega, by have := (hru e hm).right; omega⟩, by omega, by omega, ?_⟩
  have h1 := flat_bound Dsr.evLine 3000 _ (fun e hm => by
    have a := hj e hm
    have b := (hev e hm).name
    unfold Dsr.evLine
    simp only [List.length_append, List.length_cons, List.length_nil]
    split <;> split <;> split <;> simp <;> omega)
  have h2 := flat_bound Dsr.ruLine 1000 _ (fun e hm => by
    have a := (hru e hm).left
    have b := (hru e hm).right
    have c := (hru e hm).kind
    have d : (Dsr.signs.getD e.kind []).length ≤ 4 := by
      rcases hk : e.kind with _ | _ | _ | _ | _ | k
      · simp [Dsr.signs]
      · simp [Dsr.signs]
      · simp [Dsr.signs]
      · simp [Dsr.signs]
      · simp [Dsr.signs]
      · omega
    unfold Dsr.ruLine
    simp only [List.length_append, List.length_cons, List.length_nil]
    omega)
  rw [Dsr.text, List.length_append]
  have h3 := Nat.mul_le_mul_right 3000 hel
  have h4 := Nat.mul_le_mul_right 1000 hrl
  omega
end Go.Proofs.YtjmcokcdaddpcaaGreatDoor
