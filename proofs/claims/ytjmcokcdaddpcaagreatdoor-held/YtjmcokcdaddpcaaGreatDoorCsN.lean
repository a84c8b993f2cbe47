import Derived.Test.YtjmcokcdaddpcaaGreatDoorUe
import Derived.Test.YtjmcokcdaddpcaaGreatDoorPoA
set_option linter.unusedVariables false
set_option linter.unusedSimpArgs false
namespace Go.Proofs.YtjmcokcdaddpcaaGreatDoor
open Go.RowKit
section
variable {B N : Nat} {w w' : World} {fs : List Nat} {rows : List Row} {es : List Dsr.Ev} {rs : List Dsr.Rl} {a : SA}
/-- A fixed block more. -/
theorem RowsOk.addF (h : RowsOk B w fs rows) {k : Nat} (hB : B ≤ k) (hk : k < w.heap.size) (hn : ¬ Owns fs rows k) : RowsOk B w (fs ++ [k]) rows := by
  refine ⟨h.own, ?_, fun f hf => ?_⟩
  · have hp := List.pairwise_append.1 h.apart
    rw [List.map_append, List.append_assoc]
    refine List.pairwise_append.2 ⟨hp.1, ?_, ?_⟩
    · simp only [List.map_cons, List.map_nil, List.cons_append, List.nil_append]
      refine List.pairwise_cons.2 ⟨fun y hy => ?_, hp.2.1⟩
      obtain ⟨r, hr, rfl⟩ := List.mem_map.1 hy
      exact .inr (fun e => hn (.inr ⟨r, hr, e.symm⟩))
    · intro x hx y hy
      rcases List.mem_append.1 hy with hy | hy
      · simp at hy
        subst hy
        obtain ⟨f, hf, rfl⟩ := List.mem_map.1 hx
        exact .inr (fun e => hn (.inl (by cases e; exact hf)))
      · exact hp.2.2 x hx y hy
  · rcases List.mem_append.1 hf with hf | hf
    · exact h.low f hf
    · simp at hf; subst hf; exact ⟨hB, hk⟩
/-- One event more. -/
theorem StAt.addEv (h : StAt N w es [] a) (e : Dsr.Ev) (v : Value) {Br : Nat} (hr : w.ownsRow Br 9 1 v e.roles.length (e.roles.map strV)) (hrl : ∀ k, v.ownBlock = some k → k < N) {o : Obj} {w2 : World} {g cap : Nat}
    (hown : w2.ownsRow N 175 1 (.slice (some ⟨g, 0, none⟩) (es.length + 1) cap) (es.length + 1) (a.eb.map ptr ++ [ptr w.heap.size]))
    (hg : ((w.alloc (.cells #[strV e.name, v, .bool e.done, .bool e.inn, .bool e.due] 177)).alloc o).grownBy w2 a.ve.ownBlock) (hat : a.ve.ownBlock = some g ∨ w.heap.size + 2 ≤ g) :
    StAt N (w2.setCell ⟨a.sb, 0, none⟩ (.slice (some ⟨g, 0, none⟩) (es.length + 1) cap)) (es ++ [e]) [] { a with eb := a.eb ++ [w.heap.size], ve := .slice (some ⟨g, 0, none⟩) (es.length + 1) cap, rv := a.rv ++ [v] } := by
  obtain ⟨w1, hw1⟩ : ∃ w1, w1 = (w.alloc (.cells #[strV e.name, v, .bool e.done, .bool e.inn, .bool e.due] 177)).alloc o := ⟨_, rfl⟩
  rw [← hw1] at hg
  have hb1 : Below w.heap.size w w1 := by rw [hw1]; exact ((Below.refl _ _).alloc (Nat.le_refl _) _).alloc (by simp) _
  have hs1 : w1.heap.size = w.heap.size + 2 := by rw [hw1]; simp
  have hk1 : w1.heap[w.heap.size]? = some (evB e v) := by rw [hw1]; exact (Below.heap_alloc _ _ _ (by simp)).trans (heap_alloc_new _ _)
  have h1 := h.below hb1
  have hN : N ≤ w.heap.size := by have := h.sbLt; omega
  have hnew : ¬ Owns (a.sb :: a.eb) (stRows es [] a) w.heap.size := fun ho => by have := (h.rows.lt ho).2; omega
  have r1 := h1.rows.addF hN (by omega) hnew
  have hrow0 : (stRows es [] a)[0]? = some ⟨a.ve, 175, 1, es.length, a.eb.map ptr⟩ := rfl
  have r2 := r1.setRow (w' := w2) hrow0 (r' := ⟨.slice (some ⟨g, 0, none⟩) (es.length + 1) cap, 175, 1, es.length + 1, a.eb.map ptr ++ [ptr w.heap.size]⟩) hown hg.size (fun k hk hn => hg.block k hk hn) (fun g' hg' => by
    simp [Value.ownBlock] at hg'
    subst hg'
    rcases hat with h | h
    · exact .inl h
    · right; omega)
  have r3 := r2.put (f := a.sb) (by simp) 0 (.slice (some ⟨g, 0, none⟩) (es.length + 1) cap)
  have hsz2 : w2.heap.size ≤ (w2.setCell ⟨a.sb, 0, none⟩ (.slice (some ⟨g, 0, none⟩) (es.length + 1) cap)).heap.size := by simp [World.setCell]
  have hfar : ∀ k, k < w1.heap.size → some k ≠ a.ve.ownBlock → k ≠ a.sb → (w2.setCell ⟨a.sb, 0, none⟩ (.slice (some ⟨g, 0, none⟩) (es.length + 1) cap)).heap[k]? = w1.heap[k]? := fun k hk hn hs => by
    rw [heap_setCell_other _ _ _ _ (by exact hs)]; exact hg.block k hk hn
  have hnotve : ∀ k, k ∈ a.sb :: a.eb → some k ≠ a.ve.ownBlock := fun k hk e => h.rows.notFixed (r := ⟨a.ve, 175, 1, es.length, a.eb.map ptr⟩) (by simp [stRows]) e.symm hk
  refine ⟨?_, ?_, by simp [h.len], by simp [h.rlen], ?_, ?_⟩
  · have e1 : stRows (es ++ [e]) [] { a with eb := a.eb ++ [w.heap.size], ve := .slice (some ⟨g, 0, none⟩) (es.length + 1) cap, rv := a.rv ++ [v] } = (stRows es [] a).set 0 ⟨.slice (some ⟨g, 0, none⟩) (es.length + 1) cap, 175, 1, es.length + 1, a.eb.map ptr ++ [ptr w.heap.size]⟩ := by
      simp [stRows]
    rw [e1]
    exact r3
  · have hb2 : w2.heap[a.sb]? = some (.cells #[a.ve, a.vr] 174 (0, 0)) := (hg.block a.sb (by have := h1.sbLt; omega) (hnotve _ (by simp))).trans h1.blk
    show (w2.setCell ⟨a.sb, 0, none⟩ _).heap[a.sb]? = some (.cells #[.slice (some ⟨g, 0, none⟩) (es.length + 1) cap, a.vr] 174 (0, 0))
    rw [blk_set hb2]
    simp
  · intro i x b u hx hb hu
    by_cases hi : i < es.length
    · rw [List.getElem?_append_left hi] at hx
      have hb' : a.eb[i]? = some b := by rw [← hb]; exact (List.getElem?_append_left (by rw [h.len]; exact hi)).symm
      have hu' : a.rv[i]? = some u := by rw [← hu]; exact (List.getElem?_append_left (by rw [h.rlen]; exact hi)).symm
      have hbm : b ∈ a.eb := List.mem_of_getElem? hb'
      rw [hfar b (by have := h1.ebLt hbm; omega) (hnotve b (by simp [hbm])) (fun e => h.nodup.2 (by rw [← e]; exact hbm))]
      exact h1.ev i x b u hx hb' hu'
    · have hil : i = es.length := by
        have := (List.getElem?_eq_some_iff.1 hx).1
        simp at this; omega
      subst hil
      have ex : e = x := by simpa using hx
      have eb : w.heap.size = b := by have := hb; rw [← h.len] at this; simpa using this
      have eu : v = u := by have := hu; rw [← h.rlen] at this; simpa using this
      subst ex eb eu
      rw [hfar w.heap.size (by omega) (fun e => by have := (World.ownsRow.lt h.own0 w.heap.size e.symm).2; omega) (by have := h.sbLt; omega)]
      exact hk1
  · intro i x u hx hu
    by_cases hi : i < es.length
    · rw [List.getElem?_append_left hi] at hx
      have hu' : a.rv[i]? = some u := by rw [← hu]; exact (List.getElem?_append_left (by rw [h.rlen]; exact hi)).symm
      obtain ⟨⟨B', ho⟩, hl⟩ := h1.rol i x u hx hu'
      refine ⟨⟨B', ownsRow_of_block ho fun k hk hv => hfar k hk (fun e => ?_) (by have := hl k hv; have := h.sbLt; omega)⟩, hl⟩
      have := (World.ownsRow.lt h.own0 k e.symm).1
      have := hl k hv
      omega
    · have hil : i = es.length := by
        have := (List.getElem?_eq_some_iff.1 hx).1
        simp at this; omega
      subst hil
      have ex : e = x := by simpa using hx
      have eu : v = u := by have := hu; rw [← h.rlen] at this; simpa using this
      subst ex eu
      have hr1 : w1.ownsRow Br 9 1 v e.roles.length (e.roles.map strV) := ownsRow_of_block hr fun k hk _ => hb1.block k hk
      refine ⟨⟨Br, ownsRow_of_block hr1 fun k hk hv => hfar k hk (fun e => ?_) (by have := hrl k hv; have := h.sbLt; omega)⟩, hrl⟩
      have := (World.ownsRow.lt h.own0 k e.symm).1
      have := hrl k hv
      omega
/-- One rule more. -/
theorem StAt.addRu (h : StAt N w es rs a) (r : Dsr.Rl) {o : Obj} {w2 : World} {g cap : Nat}
    (hown : w2.ownsRow N 180 3 (.slice (some ⟨g, 0, none⟩) (rs.length + 1) cap) (rs.length + 1) (rs.flatMap (ruS (nms es) a.eb) ++ ruS (nms es) a.eb r))
    (hg : (w.alloc o).grownBy w2 a.vr.ownBlock) (hat : a.vr.ownBlock = some g ∨ w.heap.size + 1 ≤ g) :
    StAt N (w2.setCell ⟨a.sb, 1, none⟩ (.slice (some ⟨g, 0, none⟩) (rs.length + 1) cap)) es (rs ++ [r]) { a with vr := .slice (some ⟨g, 0, none⟩) (rs.length + 1) cap } := by
  have hb1 : Below w.heap.size w (w.alloc o) := (Below.refl _ _).alloc (Nat.le_refl _) _
  have hs1 : (w.alloc o).heap.size = w.heap.size + 1 := by simp
  have h1 := h.below hb1
  have hrow1 : (stRows es rs a)[1]? = some ⟨a.vr, 180, 3, rs.length, rs.flatMap (ruS (nms es) a.eb)⟩ := rfl
  have r2 := h1.rows.setRow (w' := w2) hrow1 (r' := ⟨.slice (some ⟨g, 0, none⟩) (rs.length + 1) cap, 180, 3, rs.length + 1, rs.flatMap (ruS (nms es) a.eb) ++ ruS (nms es) a.eb r⟩) hown hg.size (fun k hk hn => hg.block k hk hn) (fun g' hg' => by
    simp [Value.ownBlock] at hg'
    subst hg'
    rcases hat with h | h
    · exact .inl h
    · right; omega)
  have r3 := r2.put (f := a.sb) (by simp) 1 (.slice (some ⟨g, 0, none⟩) (rs.length + 1) cap)
  have hfar : ∀ k, k < (w.alloc o).heap.size → some k ≠ a.vr.ownBlock → k ≠ a.sb → (w2.setCell ⟨a.sb, 1, none⟩ (.slice (some ⟨g, 0, none⟩) (rs.length + 1) cap)).heap[k]? = (w.alloc o).heap[k]? := fun k hk hn hs => by
    rw [heap_setCell_other _ _ _ _ (by exact hs)]; exact hg.block k hk hn
  have hnotvr : ∀ k, k ∈ a.sb :: a.eb → some k ≠ a.vr.ownBlock := fun k hk e => h.rows.notFixed (r := ⟨a.vr, 180, 3, rs.length, rs.flatMap (ruS (nms es) a.eb)⟩) (by simp [stRows]) e.symm hk
  have hvrlt : ∀ k, a.vr.ownBlock = some k → N ≤ k := fun k hk => (World.ownsRow.lt (h.rows.own ⟨a.vr, 180, 3, rs.length, rs.flatMap (ruS (nms es) a.eb)⟩ (by simp [stRows])) k hk).1
  refine ⟨?_, ?_, h.len, h.rlen, ?_, ?_⟩
  · have e1 : stRows es (rs ++ [r]) { a with vr := .slice (some ⟨g, 0, none⟩) (rs.length + 1) cap } = (stRows es rs a).set 1 ⟨.slice (some ⟨g, 0, none⟩) (rs.length + 1) cap, 180, 3, rs.length + 1, rs.flatMap (ruS (nms es) a.eb) ++ ruS (nms es) a.eb r⟩ := by
      simp [stRows]
    rw [e1]
    exact r3
  · have hb2 : w2.heap[a.sb]? = some (.cells #[a.ve, a.vr] 174 (0, 0)) := (hg.block a.sb (by have := h1.sbLt; omega) (hnotvr _ (by simp))).trans h1.blk
    show (w2.setCell ⟨a.sb, 1, none⟩ _).heap[a.sb]? = some (.cells #[a.ve, .slice (some ⟨g, 0, none⟩) (rs.length + 1) cap] 174 (0, 0))
    rw [blk_set hb2]
    simp
  · intro i x b u hx hb hu
    have hbm : b ∈ a.eb := List.mem_of_getElem? hb
    rw [hfar b (by have := h1.ebLt hbm; omega) (hnotvr b (by simp [hbm])) (fun e => h.nodup.2 (by rw [← e]; exact hbm))]
    exact h1.ev i x b u hx hb hu
  · intro i x u hx hu
    obtain ⟨⟨B', ho⟩, hl⟩ := h1.rol i x u hx hu
    refine ⟨⟨B', ownsRow_of_block ho fun k hk hv => hfar k hk (fun e => ?_) (by have := hl k hv; have := h.sbLt; omega)⟩, hl⟩
    have := hvrlt k e.symm
    have := hl k hv
    omega
end
end Go.Proofs.YtjmcokcdaddpcaaGreatDoor
