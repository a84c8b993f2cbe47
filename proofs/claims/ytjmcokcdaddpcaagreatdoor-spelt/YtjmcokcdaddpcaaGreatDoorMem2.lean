import Derived.Test.YtjmcokcdaddpcaaGreatDoorRdC
import Derived.Test.YtjmcokcdaddpcaaGreatDoorPure3
set_option linter.unusedVariables false
set_option linter.unusedSimpArgs false
namespace Go.Proofs.YtjmcokcdaddpcaaGreatDoor
open Go.RowKit
theorem differ_left {x v : Option Nat} {g N : Nat} (h : Differ x v) (hx : ∀ k, x = some k → k < N) (hat : v = some g ∨ g = N) : Differ x (some g) := by
  rcases h with h | h
  · exact .inl h
  · rcases hat with rfl | rfl
    · exact .inr h
    · right; intro e; have := hx _ e; omega
theorem differ_right {y v : Option Nat} {g N : Nat} (h : Differ v y) (hy : ∀ k, y = some k → k < N) (hat : v = some g ∨ g = N) : Differ (some g) y := by
  right
  intro e
  rcases hat with rfl | rfl
  · rcases h with h | h
    · cases h
    · exact h e
  · have := hy _ e.symm; omega
/-- The shape of an owned slice. -/
theorem owned_shape {w : World} {base : Nat} {e : TypeId} {size : Nat} {v : Value} {n : Nat} {xs : List Value} (h : w.ownsRow base e size v n xs) : ∃ a c, v = .slice a n c := by
  rcases h.2 with ⟨rfl, rfl⟩ | ⟨g, cap, cur, rfl, _⟩
  · exact ⟨_, _, rfl⟩
  · exact ⟨_, _, rfl⟩
/-- One use more. -/
theorem RdAt.useAdd {B b : Nat} {w w' : World} {t : ByteArray} {r : Dsr.Rd} {s : St} (h : RdAt B b w t r s) (u : Dsr.Us) {g cap : Nat}
    (hown : w'.ownsRow B 199 4 (.slice (some ⟨g, 0, none⟩) (r.uses.length + 1) cap) (r.uses.length + 1) (r.uses.flatMap usC ++ usC u)) (hg : w.grownBy w' s.vu.ownBlock) (hat : s.vu.ownBlock = some g ∨ g = w.heap.size) :
    RdAt B b (w'.setCell ⟨b, 7, none⟩ (.slice (some ⟨g, 0, none⟩) (r.uses.length + 1) cap)) t { r with uses := r.uses ++ [u] } { s with vu := .slice (some ⟨g, 0, none⟩) (r.uses.length + 1) cap } := by
  have ha := h.apart
  simp only [List.pairwise_cons, List.forall_mem_cons] at ha
  obtain ⟨⟨b1, b2, b3, b4⟩, ⟨e1, e2, e3⟩, ⟨r1, r2⟩, u1, p⟩ := ha
  have hbN := h.lt
  have lb : ∀ k, some b = some k → k < w.heap.size := fun k hk => by cases hk; exact hbN
  have le : ∀ k, s.ve.ownBlock = some k → k < w.heap.size := fun k hk => (h.evs.lt k hk).2
  have lr : ∀ k, s.vr.ownBlock = some k → k < w.heap.size := fun k hk => (h.rls.lt k hk).2
  have lv : ∀ y, y ∈ s.rv.map Value.ownBlock → ∀ k, y = some k → k < w.heap.size := by
    intro y hy k hk
    obtain ⟨v, hv, rfl⟩ := List.mem_map.1 hy
    exact (h.rvOwn hv hk).2
  have keep : ∀ k, k < w.heap.size → some k ≠ s.vu.ownBlock → k ≠ b → (w'.setCell ⟨b, 7, none⟩ (.slice (some ⟨g, 0, none⟩) (r.uses.length + 1) cap)).heap[k]? = w.heap[k]? := fun k hk h1 h2 => by
    rw [heap_setCell_other _ _ _ _ h2]; exact hg.block k hk h1
  have ne : ∀ {x y : Option Nat} {k : Nat}, Differ x y → x = some k → y ≠ some k := fun {x y k} hd hx hy => by
    rcases hd with hd | hd
    · rw [hx] at hd; cases hd
    · exact hd (hx.trans hy.symm)
  have gb : g ≠ b := by
    rcases hat with e | e
    · exact fun hh => ne b3 rfl (by rw [e, hh])
    · omega
  have bu : some b ≠ s.vu.ownBlock := fun e => ne b3 rfl e.symm
  refine { pos := h.pos, low := h.low, len := h.len, blk := ?_, evs := ?_, rls := ?_, uss := ?_, rol := ?_, apart := ?_ }
  · rw [blk_set (by rw [hg.block b hbN bu]; exact h.blk)]
    simp [rdCells]
  · exact ownsRow_of_block h.evs fun k hk hv => keep k hk (fun e => ne e2 hv e.symm) (fun e => ne b1 rfl (by rw [hv, e]))
  · exact ownsRow_of_block h.rls fun k hk hv => keep k hk (fun e => ne r1 hv e.symm) (fun e => ne b2 rfl (by rw [hv, e]))
  · have hl : (r.uses ++ [u]).length = r.uses.length + 1 := by simp
    have hf : (r.uses ++ [u]).flatMap usC = r.uses.flatMap usC ++ usC u := by simp
    show World.ownsRow _ _ _ _ _ (r.uses ++ [u]).length ((r.uses ++ [u]).flatMap usC)
    rw [hl, hf]
    exact ownsRow_of_block hown fun k hk hv => heap_setCell_other _ _ _ _ (by simp [Value.ownBlock] at hv; show k ≠ b; omega)
  · intro i e v he hv
    have hm : v.ownBlock ∈ s.rv.map Value.ownBlock := List.mem_map.2 ⟨v, List.mem_of_getElem? hv, rfl⟩
    exact ownsRow_of_block (h.rol i e v he hv) fun k hk ho => keep k hk (fun e => ne (u1 _ hm) e.symm ho) (fun e => ne (b4 _ hm) rfl (by rw [ho, e]))
  · simp only [List.pairwise_cons, List.forall_mem_cons]
    exact ⟨⟨b1, b2, differ_left b3 lb hat, b4⟩, ⟨e1, differ_left e2 le hat, e3⟩, ⟨differ_left r1 lr hat, r2⟩, fun y hy => differ_right (u1 y hy) (lv y hy) hat, p⟩
end Go.Proofs.YtjmcokcdaddpcaaGreatDoor
namespace Go.Proofs.YtjmcokcdaddpcaaGreatDoor
open Go.RowKit
/-- From w to w' the reader has gone on to r', its uses' row alone and its own block turned. -/
structure MSt (B b : Nat) (w : World) (t : ByteArray) (s : St) (w' : World) (r' : Dsr.Rd) (s' : St) : Prop where
  rd : RdAt B b w' t r' s'
  ve : s'.ve = s.ve
  vr : s'.vr = s.vr
  rv : s'.rv = s.rv
  kp : Kp (Mine b s) w w'
  mine : ∀ k, Mine b s' k → Mine b s k ∨ w.heap.size ≤ k
theorem MSt.ofB {B b : Nat} {w w' : World} {t : ByteArray} {s : St} {r' : Dsr.Rd} (h : RdAt B b w' t r' s) (hk : Kp (· = b) w w') : MSt B b w t s w' r' s :=
  ⟨h, rfl, rfl, rfl, hk.mono (fun k e => .inl (.inl e)), fun k e => .inl e⟩
theorem MSt.trans {B b : Nat} {w w1 w2 : World} {t : ByteArray} {s s1 s2 : St} {r1 r2 : Dsr.Rd} (h : MSt B b w t s w1 r1 s1) (h' : MSt B b w1 t s1 w2 r2 s2) : MSt B b w t s w2 r2 s2 :=
  ⟨h'.rd, h'.ve.trans h.ve, h'.vr.trans h.vr, h'.rv.trans h.rv, h.kp.trans h'.kp h.mine, fun k hk => by
    rcases h'.mine k hk with h1 | h1
    · exact h.mine k h1
    · right; have := h.kp.size; omega⟩
theorem MSt.refl {B b : Nat} {w : World} {t : ByteArray} {s : St} {r : Dsr.Rd} (h : RdAt B b w t r s) : MSt B b w t s w r s := .ofB h (Kp.refl _ _)
theorem MSt.signs {B b : Nat} {w w' : World} {t : ByteArray} {s s' : St} {r r' : Dsr.Rd} (h : MSt B b w t s w' r' s') (h0 : RdAt B b w t r s) (hS : SignsIn w) : SignsIn w' :=
  hS.kp h.kp (fun hm => by have := h0.mine hm; have := h0.pos; omega)
/-- Memory that is made, and writes to blocks that are the reader's own in no way: the reader is as it was. -/
theorem MSt.aside {B b : Nat} {w w1 w2 : World} {t : ByteArray} {s s1 : St} {r1 : Dsr.Rd} {S : Nat → Prop} (h : MSt B b w t s w1 r1 s1) (h' : Kp S w1 w2) (hS : ∀ k, S k → w.heap.size ≤ k ∧ ¬ Mine b s1 k) (hr : ∀ v ∈ s.rv, ∀ k, v.ownBlock = some k → k < w.heap.size) : MSt B b w t s w2 r1 s1 :=
  ⟨h.rd.same (fun k hk _ hm => h'.block k hk (fun hs => by
    rcases hm with hm | ⟨v, hv, ho⟩
    · exact (hS k hs).2 hm
    · rw [h.rv] at hv; have := hr v hv k ho; have := (hS k hs).1; omega)), h.ve, h.vr, h.rv,
   h.kp.trans h' (fun k hs => .inr (hS k hs).1), h.mine⟩
theorem RdAt.rvLt {B b : Nat} {w : World} {t : ByteArray} {r : Dsr.Rd} {s : St} (h : RdAt B b w t r s) : ∀ v ∈ s.rv, ∀ k, v.ownBlock = some k → k < w.heap.size := fun v hv k hk => (h.rvOwn hv hk).2
end Go.Proofs.YtjmcokcdaddpcaaGreatDoor
namespace Go.Proofs.YtjmcokcdaddpcaaGreatDoor
open Go.RowKit
theorem differ_ne {x y : Option Nat} {k : Nat} (hd : Differ x y) (hx : x = some k) : y ≠ some k := fun hy => by
  rcases hd with hd | hd
  · rw [hx] at hd; cases hd
  · exact hd (hx.trans hy.symm)
theorem differ_symm {x y : Option Nat} (h : Differ x y) : Differ y x := by
  rcases h with h | h
  · rcases hy : y with _ | k
    · exact .inl rfl
    · right; rw [h]; simp
  · exact .inr (fun e => h e.symm)
theorem evCells_snoc : ∀ (es : List Dsr.Ev) (vs : List Value) (e : Dsr.Ev) (v : Value), vs.length = es.length → evCells (es ++ [e]) (vs ++ [v]) = evCells es vs ++ evC e v
  | [], [], e, v, _ => by simp [evCells]
  | a :: es, b :: vs, e, v, h => by
    show evC a b ++ evCells (es ++ [e]) (vs ++ [v]) = evC a b ++ evCells es vs ++ evC e v
    rw [evCells_snoc es vs e v (by simpa using h), List.append_assoc]
  | [], b :: vs, e, v, h => by simp at h
  | a :: es, [], e, v, h => by simp at h
/-- One rule more. -/
theorem RdAt.ruleAdd {B b : Nat} {w w' : World} {t : ByteArray} {r : Dsr.Rd} {s : St} (h : RdAt B b w t r s) (u : Dsr.Rl) {g cap : Nat}
    (hown : w'.ownsRow B 150 3 (.slice (some ⟨g, 0, none⟩) (r.rules.length + 1) cap) (r.rules.length + 1) (r.rules.flatMap rlC ++ rlC u)) (hg : w.grownBy w' s.vr.ownBlock) (hat : s.vr.ownBlock = some g ∨ g = w.heap.size) :
    RdAt B b (w'.setCell ⟨b, 6, none⟩ (.slice (some ⟨g, 0, none⟩) (r.rules.length + 1) cap)) t { r with rules := r.rules ++ [u] } { s with vr := .slice (some ⟨g, 0, none⟩) (r.rules.length + 1) cap } := by
  have ha := h.apart
  simp only [List.pairwise_cons, List.forall_mem_cons] at ha
  obtain ⟨⟨b1, b2, b3, b4⟩, ⟨e1, e2, e3⟩, ⟨r1, r2⟩, u1, p⟩ := ha
  have hbN := h.lt
  have lb : ∀ k, some b = some k → k < w.heap.size := fun k hk => by cases hk; exact hbN
  have le : ∀ k, s.ve.ownBlock = some k → k < w.heap.size := fun k hk => (h.evs.lt k hk).2
  have lu : ∀ k, s.vu.ownBlock = some k → k < w.heap.size := fun k hk => (h.uss.lt k hk).2
  have lv : ∀ y, y ∈ s.rv.map Value.ownBlock → ∀ k, y = some k → k < w.heap.size := by
    intro y hy k hk
    obtain ⟨v, hv, rfl⟩ := List.mem_map.1 hy
    exact (h.rvOwn hv hk).2
  have keep : ∀ k, k < w.heap.size → some k ≠ s.vr.ownBlock → k ≠ b → (w'.setCell ⟨b, 6, none⟩ (.slice (some ⟨g, 0, none⟩) (r.rules.length + 1) cap)).heap[k]? = w.heap[k]? := fun k hk h1 h2 => by
    rw [heap_setCell_other _ _ _ _ h2]; exact hg.block k hk h1
  have gb : g ≠ b := by
    rcases hat with e | e
    · exact fun hh => differ_ne b2 rfl (by rw [e, hh])
    · omega
  have bu : some b ≠ s.vr.ownBlock := fun e => differ_ne b2 rfl e.symm
  refine { pos := h.pos, low := h.low, len := h.len, blk := ?_, evs := ?_, rls := ?_, uss := ?_, rol := ?_, apart := ?_ }
  · rw [blk_set (by rw [hg.block b hbN bu]; exact h.blk)]
    simp [rdCells]
  · exact ownsRow_of_block h.evs fun k hk hv => keep k hk (fun e => differ_ne e1 hv e.symm) (fun e => differ_ne b1 rfl (by rw [hv, e]))
  · have hl : (r.rules ++ [u]).length = r.rules.length + 1 := by simp
    have hf : (r.rules ++ [u]).flatMap rlC = r.rules.flatMap rlC ++ rlC u := by simp
    show World.ownsRow _ _ _ _ _ (r.rules ++ [u]).length ((r.rules ++ [u]).flatMap rlC)
    rw [hl, hf]
    exact ownsRow_of_block hown fun k hk hv => heap_setCell_other _ _ _ _ (by simp [Value.ownBlock] at hv; show k ≠ b; omega)
  · exact ownsRow_of_block h.uss fun k hk hv => keep k hk (fun e => differ_ne r1 e.symm hv) (fun e => differ_ne b3 rfl (by rw [hv, e]))
  · intro i e v he hv
    have hm : v.ownBlock ∈ s.rv.map Value.ownBlock := List.mem_map.2 ⟨v, List.mem_of_getElem? hv, rfl⟩
    exact ownsRow_of_block (h.rol i e v he hv) fun k hk ho => keep k hk (fun e => differ_ne (r2 _ hm) e.symm ho) (fun e => differ_ne (b4 _ hm) rfl (by rw [ho, e]))
  · simp only [List.pairwise_cons, List.forall_mem_cons]
    exact ⟨⟨b1, differ_left b2 lb hat, b3, b4⟩, ⟨differ_left e1 le hat, e2, e3⟩, ⟨differ_right r1 lu hat, fun y hy => differ_right (r2 y hy) (lv y hy) hat⟩, u1, p⟩
/-- One event more, its roles' row beside. -/
theorem RdAt.eventAdd {B b : Nat} {w w' : World} {t : ByteArray} {r : Dsr.Rd} {s : St} (h : RdAt B b w t r s) (u : Dsr.Ev) (v : Value) {g cap : Nat}
    (hv : w.ownsRow B 9 1 v u.roles.length (u.roles.map strV)) (hd : ∀ k, v.ownBlock = some k → ¬ Mine b s k ∧ ∀ y ∈ s.rv, y.ownBlock ≠ some k)
    (hown : w'.ownsRow B 144 5 (.slice (some ⟨g, 0, none⟩) (r.events.length + 1) cap) (r.events.length + 1) (evCells r.events s.rv ++ evC u v)) (hg : w.grownBy w' s.ve.ownBlock) (hat : s.ve.ownBlock = some g ∨ g = w.heap.size) :
    RdAt B b (w'.setCell ⟨b, 5, none⟩ (.slice (some ⟨g, 0, none⟩) (r.events.length + 1) cap)) t { r with events := r.events ++ [u] } { s with ve := .slice (some ⟨g, 0, none⟩) (r.events.length + 1) cap, rv := s.rv ++ [v] } := by
  have ha := h.apart
  simp only [List.pairwise_cons, List.forall_mem_cons] at ha
  obtain ⟨⟨b1, b2, b3, b4⟩, ⟨e1, e2, e3⟩, ⟨r1, r2⟩, u1, p⟩ := ha
  have hbN := h.lt
  have lb : ∀ k, some b = some k → k < w.heap.size := fun k hk => by cases hk; exact hbN
  have lr : ∀ k, s.vr.ownBlock = some k → k < w.heap.size := fun k hk => (h.rls.lt k hk).2
  have lu : ∀ k, s.vu.ownBlock = some k → k < w.heap.size := fun k hk => (h.uss.lt k hk).2
  have lv : ∀ y, y ∈ s.rv.map Value.ownBlock → ∀ k, y = some k → k < w.heap.size := by
    intro y hy k hk
    obtain ⟨v, hv, rfl⟩ := List.mem_map.1 hy
    exact (h.rvOwn hv hk).2
  have lw : ∀ k, v.ownBlock = some k → k < w.heap.size := fun k hk => (hv.lt k hk).2
  have keep : ∀ k, k < w.heap.size → some k ≠ s.ve.ownBlock → k ≠ b → (w'.setCell ⟨b, 5, none⟩ (.slice (some ⟨g, 0, none⟩) (r.events.length + 1) cap)).heap[k]? = w.heap[k]? := fun k hk h1 h2 => by
    rw [heap_setCell_other _ _ _ _ h2]; exact hg.block k hk h1
  have gb : g ≠ b := by
    rcases hat with e | e
    · exact fun hh => differ_ne b1 rfl (by rw [e, hh])
    · omega
  have bu : some b ≠ s.ve.ownBlock := fun e => differ_ne b1 rfl e.symm
  have dv : ∀ x : Option Nat, (∀ k, x = some k → Mine b s k) → Differ x v.ownBlock := fun x hx => by
    rcases hxx : x with _ | k
    · exact .inl rfl
    · exact .inr (fun e => (hd k e.symm).1 (hx k hxx))
  refine { pos := h.pos, low := h.low, len := by simp [h.len], blk := ?_, evs := ?_, rls := ?_, uss := ?_, rol := ?_, apart := ?_ }
  · rw [blk_set (by rw [hg.block b hbN bu]; exact h.blk)]
    simp [rdCells]
  · have hl : (r.events ++ [u]).length = r.events.length + 1 := by simp
    show World.ownsRow _ _ _ _ _ (r.events ++ [u]).length (evCells (r.events ++ [u]) (s.rv ++ [v]))
    rw [hl, evCells_snoc _ _ _ _ h.len]
    exact ownsRow_of_block hown fun k hk hv => heap_setCell_other _ _ _ _ (by simp [Value.ownBlock] at hv; show k ≠ b; omega)
  · exact ownsRow_of_block h.rls fun k hk hv => keep k hk (fun e => differ_ne e1 e.symm hv) (fun e => differ_ne b2 rfl (by rw [hv, e]))
  · exact ownsRow_of_block h.uss fun k hk hv => keep k hk (fun e => differ_ne e2 e.symm hv) (fun e => differ_ne b3 rfl (by rw [hv, e]))
  · intro i e y he hy
    by_cases hi : i < r.events.length
    · have he' : r.events[i]? = some e := by rw [← he]; exact (List.getElem?_append_left hi).symm
      have hy' : s.rv[i]? = some y := by rw [← hy]; exact (List.getElem?_append_left (by rw [h.len]; exact hi)).symm
      have hm : y.ownBlock ∈ s.rv.map Value.ownBlock := List.mem_map.2 ⟨y, List.mem_of_getElem? hy', rfl⟩
      exact ownsRow_of_block (h.rol i e y he' hy') fun k hk ho => keep k hk (fun e => differ_ne (e3 _ hm) e.symm ho) (fun e => differ_ne (b4 _ hm) rfl (by rw [ho, e]))
    · have hi' : i = r.events.length := by
        have := (List.getElem?_eq_some_iff.1 he).1
        simp at this; omega
      subst hi'
      have he' : u = e := by simpa using he
      have hy' : v = y := by have := hy; rw [← h.len] at this; simpa using this
      subst he' hy'
      exact ownsRow_of_block hv fun k hk ho => keep k hk (fun e => (hd k ho).1 (.inr (.inl e.symm))) (fun e => (hd k ho).1 (.inl e))
  · have hvv : ∀ y ∈ s.rv.map Value.ownBlock, Differ y v.ownBlock := by
      intro y hy
      obtain ⟨z, hz, rfl⟩ := List.mem_map.1 hy
      rcases hzz : z.ownBlock with _ | k
      · exact .inl rfl
      · exact .inr (fun e => (hd k e.symm).2 z hz hzz)
    have dg : Differ (some g) v.ownBlock := by
      right
      intro e
      rcases hat with h1 | h1
      · exact (hd g e.symm).1 (.inr (.inl h1))
      · have := lw g e.symm; omega
    simp only [List.map_append, List.map_cons, List.map_nil, List.pairwise_cons, List.pairwise_append, List.forall_mem_cons, List.forall_mem_append]
    refine ⟨⟨differ_left b1 lb hat, b2, b3, b4, dv _ (fun k e => .inl (by cases e; rfl)), by simp⟩, ⟨differ_right e1 lr hat, differ_right e2 lu hat, fun y hy => differ_right (e3 y hy) (lv y hy) hat, dg, by simp⟩, ⟨r1, r2, dv _ (fun k e => .inr (.inr (.inl e))), by simp⟩, ⟨u1, dv _ (fun k e => .inr (.inr (.inr e))), by simp⟩, p, by simp, ?_⟩
    intro y hy
    exact ⟨hvv y hy, by simp⟩
end Go.Proofs.YtjmcokcdaddpcaaGreatDoor
