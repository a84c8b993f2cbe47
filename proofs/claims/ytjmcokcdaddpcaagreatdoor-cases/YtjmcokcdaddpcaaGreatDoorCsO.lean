import Derived.Test.YtjmcokcdaddpcaaGreatDoorUx
import Derived.Deep.AppendLies
import Derived.Deep.DeepCutAuto
import Derived.Deep.CutBlock
set_option linter.unusedVariables false
set_option linter.unusedSimpArgs false
namespace Go.Proofs.YtjmcokcdaddpcaaGreatDoor
open Go.RowKit
theorem info_pev : (Tryz.prog.info? 175).map (fun i => (i.zero, i.size, i.bytes)) = some (some (.pointer none), 1, 8) := by kernel_rfl
theorem info_ru : (Tryz.prog.info? 180).map (fun i => (i.zero, i.size, i.bytes)) = some (some (.agg #[.int .u8 0, .pointer none, .pointer none]), 3, 24) := by kernel_rfl
theorem st_empty (w : World) (o : Obj) : StAt (w.heap.size + 1) ((w.alloc o).alloc (.cells #[.slice none 0 0, .slice none 0 0] 174)) [] [] ⟨w.heap.size + 1, [], .slice none 0 0, .slice none 0 0, []⟩ := by
  refine ⟨⟨?_, ?_, ?_⟩, ?_, rfl, rfl, by simp, by simp⟩
  · intro r hr
    simp [stRows] at hr
    rcases hr with rfl | rfl
    · exact World.ownsRow_nil _ _ _ _
    · exact World.ownsRow_nil _ _ _ _
  · simp [stRows, Value.ownBlock, Differ]
  · intro f hf
    simp at hf
    subst hf
    exact ⟨Nat.le_refl _, by simp⟩
  · have := heap_alloc_new (w.alloc o) (.cells #[.slice none 0 0, .slice none 0 0] 174)
    simpa using this
theorem grownDS {w w' : World} {row : Option Nat} (h : w.drew.grownBy w' row) : w.grownBy w' row := ⟨h.os, h.tape, h.output, h.size, h.block⟩
theorem news_one {w : World} {g : Nat} {x : Value} {T : TypeId} (hg : g = w.heap.size) : ∀ j u, [x][j]? = some u → (w.alloc (.cells #[x] T)).cell? ((⟨g, 0, none⟩ : Addr).add j) = some u := fun j u hu => by
  subst hg
  exact World.news_of_block (heap_alloc_new w _) j u (by simpa using hu)
theorem GOk.sub {es : List Dsr.Ev} {rs : List Dsr.Rl} (h : GOk es rs) (qs : List Dsr.Rl) (hq : ∀ r ∈ qs, r ∈ rs) (hl : qs.length ≤ 1000 := by simp; omega) : GOk es qs :=
  ⟨h.nodup, fun r hr => h.known r (hq r hr), fun r hr => h.kind r (hq r hr), h.esl, hl, h.rol⟩
theorem rcells {wr W w1 : World} {x y z : Value} {T : TypeId} (hc : Below W.heap.size W w1) (hW : W.heap = (wr.alloc (.cells #[x, y, z] T)).heap) : w1.cell? ⟨wr.heap.size, 0, none⟩ = some x ∧ w1.cell? ⟨wr.heap.size, 1, none⟩ = some y ∧ w1.cell? ⟨wr.heap.size, 2, none⟩ = some z ∧ wr.heap.size < w1.heap.size := by
  have hl : wr.heap.size < W.heap.size := by rw [hW]; simp
  have hb : w1.heap[wr.heap.size]? = some (.cells #[x, y, z] T (0, 0)) := by
    rw [hc.block _ hl, hW]; exact heap_alloc_new _ _
  refine ⟨?_, ?_, ?_, Nat.lt_of_lt_of_le hl hc.size⟩ <;> simp [World.cell?, hb]
theorem news_three {w : World} {g : Nat} {x y z : Value} {T : TypeId} (hg : g = w.heap.size) : ∀ j u, [x, y, z][j]? = some u → (w.alloc (.cells #[x, y, z] T)).cell? ((⟨g, 0, none⟩ : Addr).add j) = some u := fun j u hu => by
  subst hg
  exact World.news_of_block (heap_alloc_new w _) j u (by simpa using hu)
theorem after_ru {N : Nat} {wr w2 w3 : World} {es : List Dsr.Ev} {rs : List Dsr.Rl} {a : SA} {ar : Option Addr} {cr m sb lb rb : Nat} (h : StAt N wr es rs a) (hb2 : Below wr.heap.size wr w2) (hvr : a.vr = .slice ar rs.length cr) (hsb : a.sb = sb) (hml : rs.length = m) (r : Dsr.Rl) (hlb : lb = ebOf (nms es) a.eb r.left) (hrb : rb = ebOf (nms es) a.eb r.right) {o : Obj} {g cap : Nat}
    (hown : w3.ownsRow N 180 3 (.slice (some ⟨g, 0, none⟩) (m + 1) cap) (m + 1) (rs.flatMap (ruS (nms es) a.eb) ++ [.int .u8 r.kind, ptr lb, ptr rb]))
    (hg : (w2.alloc o).grownBy w3 (Value.slice ar m cr).ownBlock) (hat : (Value.slice ar m cr).ownBlock = some g ∨ g = w2.heap.size + 1) :
    Hid (∃ a', (a'.sb = sb ∧ a'.rv = a.rv) ∧ StAt N (w3.setCell ⟨sb, 1, none⟩ (.slice (some ⟨g, 0, none⟩) (m + 1) cap)) es (rs ++ [r]) a' ∧ Below N wr (w3.setCell ⟨sb, 1, none⟩ (.slice (some ⟨g, 0, none⟩) (m + 1) cap))) ∧ w3.cell? ⟨sb, 1, none⟩ = some (.slice ar m cr) ∧ w3.frozen? ⟨sb, 1, none⟩ = false ∧ sb < w3.heap.size := by
  subst hml hsb hlb hrb
  rw [← hvr] at hg hat ⊢
  have h2 := h.below hb2
  have S := h2.addRu r (o := o) (w2 := w3) (g := g) (cap := cap) hown hg (by rcases hat with h | h; exact .inl h; right; omega)
  have hN : N ≤ wr.heap.size := by have := h.sbLt; omega
  have hns : some a.sb ≠ a.vr.ownBlock := fun e => h.rows.notFixed (r := ⟨a.vr, 180, 3, rs.length, rs.flatMap (ruS (nms es) a.eb)⟩) (by simp [stRows]) e.symm (by simp)
  have hbk : w3.heap[a.sb]? = some (.cells #[a.ve, a.vr] 174 (0, 0)) := (hg.block a.sb (by have := h2.sbLt; simp; omega) hns).trans ((h2.alloc o).blk)
  obtain ⟨s0, s1, sf⟩ := cells2 hbk
  refine ⟨⟨⟨a.sb, a.eb, a.ve, .slice (some ⟨g, 0, none⟩) (rs.length + 1) cap, a.rv⟩, ⟨rfl, rfl⟩, S, ?_⟩, s1, sf 1, (Array.getElem?_eq_some_iff.1 hbk).1⟩
  refine Below.setCell ?_ h.sbLt.1 _
  exact ((hb2.mono hN).alloc (by have := hb2.size; omega) o).grown hg (by have := hb2.size; simp; omega) (fun k hk => (h.own1.lt k hk).1)
theorem drewS {N : Nat} {w : World} {es : List Dsr.Ev} {rs : List Dsr.Rl} {a : SA} (h : StAt N w es rs a) : StAt N w es rs a := h
theorem drewB {N : Nat} {w w' : World} (h : Below N w w') : Below N w w' := h
theorem after_ev {N : Nat} {wr w2 : World} {es : List Dsr.Ev} {a : SA} {ae : Option Addr} {ce m sb : Nat} (h : StAt N wr es [] a) (hve : a.ve = .slice ae es.length ce) (hsb : a.sb = sb) (hml : es.length = m) (e : Dsr.Ev) {Br : Nat} {v : Value} (hr : wr.ownsRow Br 9 1 v e.roles.length (e.roles.map strV)) (hrl : ∀ k, v.ownBlock = some k → k < N) {o1 o : Obj} {g cap : Nat}
    (hown : w2.ownsRow N 175 1 (.slice (some ⟨g, 0, none⟩) (m + 1) cap) (m + 1) (a.eb.map ptr ++ [ptr (wr.heap.size + 1)]))
    (hg : (((wr.alloc o1).alloc (.cells #[strV e.name, v, .bool e.done, .bool e.inn, .bool e.due] 177)).alloc o).grownBy w2 (Value.slice ae m ce).ownBlock) (hat : (Value.slice ae m ce).ownBlock = some g ∨ g = wr.heap.size + 1 + 1 + 1) :
    Hid (∃ a', (a'.sb = sb ∧ a'.rv = a.rv ++ [v]) ∧ StAt N (w2.setCell ⟨sb, 0, none⟩ (.slice (some ⟨g, 0, none⟩) (m + 1) cap)) (es ++ [e]) [] a' ∧ Below N wr (w2.setCell ⟨sb, 0, none⟩ (.slice (some ⟨g, 0, none⟩) (m + 1) cap))) ∧ w2.cell? ⟨sb, 0, none⟩ = some (.slice ae m ce) ∧ w2.frozen? ⟨sb, 0, none⟩ = false ∧ sb < w2.heap.size := by
  subst hml hsb
  rw [← hve] at hg hat ⊢
  have h1 := h.alloc o1
  have e1 : (wr.alloc o1).heap.size = wr.heap.size + 1 := by simp
  have hr1 := hr.alloc o1
  have S := h1.addEv e v hr1 hrl (o := o) (w2 := w2) (g := g) (cap := cap) (by rw [e1]; exact hown) hg (by rcases hat with h | h; exact .inl h; right; rw [h, e1]; omega)
  have hN : N ≤ wr.heap.size := by have := h.sbLt; omega
  have hns : some a.sb ≠ a.ve.ownBlock := fun e => h.rows.notFixed (r := ⟨a.ve, 175, 1, es.length, a.eb.map ptr⟩) (by simp [stRows]) e.symm (by simp)
  have hbk : w2.heap[a.sb]? = some (.cells #[a.ve, a.vr] 174 (0, 0)) := (hg.block a.sb (by have := h.sbLt; simp; omega) hns).trans ((((h.alloc o1).alloc _).alloc _).blk)
  obtain ⟨s0, s1, sf⟩ := cells2 hbk
  refine ⟨⟨⟨a.sb, a.eb ++ [(wr.alloc o1).heap.size], .slice (some ⟨g, 0, none⟩) (es.length + 1) cap, a.vr, a.rv ++ [v]⟩, ⟨rfl, rfl⟩, S, ?_⟩, s0, sf 0, (Array.getElem?_eq_some_iff.1 hbk).1⟩
  refine Below.setCell ?_ h.sbLt.1 _
  exact ((((Below.refl _ _).alloc hN o1).alloc (by simp; omega) _).alloc (by simp; omega) o).grown hg (by simp; omega) (fun k hk => (h.own0.lt k hk).1)
set_option maxRecDepth 100000 in
set_option maxHeartbeats 60000000 in
theorem stBegin_any {B : Nat} {w : World} {es : List Dsr.Ev} {rs : List Dsr.Rl} {ve vr : Value} {rv : List Value} (h : GrAt B w es rs ve vr rv) (hg : GOk es rs) :
    Calls Tryz.prog 54 #[.agg #[ve, vr]] w fun x w' => ∃ a, x = .returned (ptr a.sb) ∧ StAt (w.heap.size + 1) w' es rs a ∧ Below w.heap.size w w' ∧ a.rv = rv := by
  obtain ⟨ae, ce, rfl⟩ := owned_shape h.evs
  obtain ⟨ar, cr, rfl⟩ := owned_shape h.rls
  have H : Hid (GrAt B w es rs (.slice ae es.length ce) (.slice ar rs.length cr) rv ∧ GOk es rs) := ⟨h, hg⟩
  have hez : (es.length : Int) ≤ 1000 := by have := hg.esl; omega
  have hrz : (rs.length : Int) ≤ 1000 := by have := hg.rsl; omega
  obtain ⟨i0, hi, hz0, hz1, hz2⟩ := info_parts info_pev
  obtain ⟨i1, hi1, hy0, hy1, hy2⟩ := info_parts info_ru
  clear h hg
  go_enter Tryz.func54, Tryz.ntmps54
  go_wp2_with fail
  go_loopg [13] es.length (fun g i wr => ∃ (m : Nat) (a : SA), i = .int .i64 m ∧ m + g = es.length ∧ (a.sb = w.heap.size + 1 ∧ a.rv = rv.take m) ∧ StAt (w.heap.size + 1) wr (es.take m) [] a ∧ Below (w.heap.size + 1) (w.alloc (.cells #[.slice ae es.length ce, .slice ar rs.length cr] 91)) wr)
  case atStart => exact ⟨0, ⟨w.heap.size + 1, [], .slice none 0 0, .slice none 0 0, []⟩, rfl, by omega, ⟨rfl, rfl⟩, st_empty _ _, (Below.refl _ _).alloc (by simp) _⟩
  case round =>
    obtain ⟨m, a, rfl, hm, ⟨hsb, harv⟩, hS, hb⟩ := hrel
    have HRV : Hid (a.rv = rv.take m) := harv
    clear harv
    have hw : Below w.heap.size w wr := ((Below.refl _ _).alloc (Nat.le_refl _) _).trans (hb.mono (by omega))
    by_cases hlt : m < es.length
    · obtain ⟨e, he⟩ : ∃ e, es[m]? = some e := ⟨_, List.getElem?_eq_getElem hlt⟩
      obtain ⟨v, hv⟩ : ∃ v, rv[m]? = some v := ⟨_, List.getElem?_eq_getElem (by rw [H.out.1.len]; exact hlt)⟩
      have HVm : Hid (rv[m]? = some v) := hv
      have G := H.out.1.below (Nat.le_refl _) hw
      obtain ⟨ge, ce', hge, _, _⟩ := G.evs.form (by omega)
      injection hge with hge1 hge2 hge3
      subst hge1
      subst hge3
      have c0 := own_cell G.evs ((evCells_at es rv m e v 0 he hv (by omega)).trans rfl)
      have c1 := own_cell G.evs ((evCells_at es rv m e v 1 he hv (by omega)).trans rfl)
      have c2 := own_cell G.evs ((evCells_at es rv m e v 2 he hv (by omega)).trans rfl)
      have c3 := own_cell G.evs ((evCells_at es rv m e v 3 he hv (by omega)).trans rfl)
      have c4 := own_cell G.evs ((evCells_at es rv m e v 4 he hv (by omega)).trans rfl)
      rw [Nat.add_zero] at c0
      have ho := G.rol m e v he hv
      have hol : ∀ k, v.ownBlock = some k → k < w.heap.size + 1 := fun k hk => by have := ((H.out.1.rol m e v he hv).lt k hk).2; omega
      obtain ⟨va, vc, rfl⟩ := owned_shape ho
      obtain ⟨ae', ce2, ar', cr', hve, hvr⟩ := hS.shapes
      have hblk := hS.blk
      rw [hve, hvr, hsb] at hblk
      obtain ⟨s0, s1, sf⟩ := cells2 hblk
      have hsl := hS.sbLt.2
      rw [hsb] at hsl
      have HR : Hid (StAt (w.heap.size + 1) wr (es.take m) [] a ∧ a.ve = .slice ae' (es.take m).length ce2 ∧ a.vr = .slice ar' ([] : List Dsr.Rl).length cr' ∧ Below (w.heap.size + 1) (w.alloc (.cells #[.slice (some ⟨ge, 0, none⟩) es.length ce, .slice ar rs.length cr] 91)) wr ∧ es[m]? = some e ∧ wr.ownsRow B 9 1 (.slice va e.roles.length vc) e.roles.length (e.roles.map strV) ∧ (∀ k, (Value.slice va e.roles.length vc).ownBlock = some k → k < w.heap.size + 1) ∧ a.sb = w.heap.size + 1) := ⟨hS, hve, hvr, hb, he, ho, hol, hsb⟩
      have hml : (es.take m).length = m := by simp; omega
      rw [hml] at s0
      clear hS hb he ho hol G hw hve hvr hblk hv
      have HU : Hid (∀ o1 o2 o3, (((wr.alloc o1).alloc o2).alloc o3).ownsRow (w.heap.size + 1) 175 1 (.slice ae' m ce2) m (a.eb.map ptr)) := fun o1 o2 o3 => by
        have := HR.out.1.own0
        rw [HR.out.2.1, hml] at this
        exact ((this.alloc _).alloc _).alloc _
      have hBw : w.heap.size + 1 ≤ wr.heap.size := by omega
      have sA : ∀ o1, (wr.alloc o1).cell? ⟨w.heap.size + 1, 0, none⟩ = some (.slice ae' m ce2) := fun o1 => ((below_alloc1S o1).cell (p := ⟨w.heap.size + 1, 0, none⟩) hsl).trans s0
      have sB : ∀ o1 o2, ((wr.alloc o1).alloc o2).cell? ⟨w.heap.size + 1, 0, none⟩ = some (.slice ae' m ce2) := fun o1 o2 => ((below_alloc1S o2).cell (p := ⟨w.heap.size + 1, 0, none⟩) (by simp; omega)).trans (sA o1)
      have sC : ∀ o1 o2 o3, (((wr.alloc o1).alloc o2).alloc o3).cell? ⟨w.heap.size + 1, 0, none⟩ = some (.slice ae' m ce2) := fun o1 o2 o3 => ((below_alloc1S o3).cell (p := ⟨w.heap.size + 1, 0, none⟩) (by simp; omega)).trans (sB o1 o2)
      go_upto_block 1 with fail
      go_cut [13] (fun i wd => i = .int .i64 m ∧ ∃ a', (a'.sb = w.heap.size + 1 ∧ a'.rv = rv.take (m + 1)) ∧ StAt (w.heap.size + 1) wd (es.take (m + 1)) [] a' ∧ Below (w.heap.size + 1) (w.alloc (.cells #[.slice (some ⟨ge, 0, none⟩) es.length ce, .slice ar rs.length cr] 91)) wd)
      case first =>
        go_wp2_with fail
        refine wp_region_D (fun w' => Below wr.heap.size wr w' ∧ w'.cell? ⟨wr.heap.size, 0, none⟩ = some (strV e.name) ∧ w'.cell? ⟨wr.heap.size, 1, none⟩ = some (.slice va e.roles.length vc) ∧ w'.cell? ⟨wr.heap.size, 2, none⟩ = some (.bool e.done) ∧ w'.cell? ⟨wr.heap.size, 3, none⟩ = some (.bool e.inn) ∧ w'.cell? ⟨wr.heap.size, 4, none⟩ = some (.bool e.due)) [14, 17] (by kernel_rfl) ?_
        have hX : Hid (∀ W : World, Below (wr.heap.size + 1) (wr.alloc (.cells #[strV e.name, .slice va e.roles.length vc, .bool e.done, .bool e.inn, .bool e.due] 144)) W → Below wr.heap.size wr W ∧ W.cell? ⟨wr.heap.size, 0, none⟩ = some (strV e.name) ∧ W.cell? ⟨wr.heap.size, 1, none⟩ = some (.slice va e.roles.length vc) ∧ W.cell? ⟨wr.heap.size, 2, none⟩ = some (.bool e.done) ∧ W.cell? ⟨wr.heap.size, 3, none⟩ = some (.bool e.inn) ∧ W.cell? ⟨wr.heap.size, 4, none⟩ = some (.bool e.due)) := fun W hW => by
          have hbk : W.heap[wr.heap.size]? = some (.cells #[strV e.name, .slice va e.roles.length vc, .bool e.done, .bool e.inn, .bool e.due] 144 (0, 0)) := (hW.block _ (by omega)).trans (heap_alloc_new _ _)
          refine ⟨((Below.refl _ _).alloc (Nat.le_refl _) _).trans (hW.mono (by omega)), ?_, ?_, ?_, ?_, ?_⟩ <;> simp only [World.cell?, hbk] <;> rfl
        have hS0 := hX.out _ (Below.drew (Below.refl _ _))
        have HS0 : Hid _ := hS0
        clear hS0
        refine wpAnyD_takeY (i := 0) (v := ?_) rfl (by kernel_rfl) (by kernel_rfl) (by kernel_rfl) (fun _ _ _ h => h) (Or.inl ⟨by rfl, ?_⟩) ?_
        rotate_left
        · intro wx; first | (go_simp; done) | (go_simp; with_reducible rfl)
        try simp only [Act.put, List.setIfInBounds_toArray, List.set_cons_zero, List.set_cons_succ, List.getElem_toArray, List.getElem_cons_succ, List.getElem_cons_zero]
        refine wpAnyD_takeY (i := 1) (v := ?_) rfl (by kernel_rfl) (by kernel_rfl) (by kernel_rfl) (fun _ _ _ h => h) (Or.inl ⟨by rfl, ?_⟩) ?_
        rotate_left
        · intro wx; first | (go_simp; done) | (go_simp; with_reducible rfl)
        try simp only [Act.put, List.setIfInBounds_toArray, List.set_cons_zero, List.set_cons_succ, List.getElem_toArray, List.getElem_cons_succ, List.getElem_cons_zero]
        refine wpAnyD_takeY (i := 2) (v := ?_) rfl (by kernel_rfl) (by kernel_rfl) (by kernel_rfl) (fun _ _ _ h => h) (Or.inl ⟨by rfl, ?_⟩) ?_
        rotate_left
        · intro wx; first | (go_simp; done) | (go_simp; with_reducible rfl)
        try simp only [Act.put, List.setIfInBounds_toArray, List.set_cons_zero, List.set_cons_succ, List.getElem_toArray, List.getElem_cons_succ, List.getElem_cons_zero]
        refine wpAnyD_takeY (i := 3) (v := ?_) rfl (by kernel_rfl) (by kernel_rfl) (by kernel_rfl) (fun _ _ _ h => h) (Or.inl ⟨by rfl, ?_⟩) ?_
        rotate_left
        · intro wx; first | (go_simp; done) | (go_simp; with_reducible rfl)
        try simp only [Act.put, List.setIfInBounds_toArray, List.set_cons_zero, List.set_cons_succ, List.getElem_toArray, List.getElem_cons_succ, List.getElem_cons_zero]
        refine wpAnyD_take [14, 17] (i := 4) (v := ?_) rfl (by kernel_rfl) (by kernel_rfl) (by kernel_rfl) (by kernel_rfl) (fun _ _ _ h => h) (Or.inl ⟨by rfl, ?_⟩) HS0 ?_
        rotate_left
        · rintro wx ⟨hx0, hx1, hx2, hx3, hx4, hx5⟩; have hx6 := (hx0.cell (p := ⟨w.heap.size + 1, 0, none⟩) hsl).trans s0; first | (go_simp; done) | (go_simp; with_reducible rfl)
        try simp only [Act.put, List.setIfInBounds_toArray, List.set_cons_zero, List.set_cons_succ, List.getElem_toArray, List.getElem_cons_succ, List.getElem_cons_zero]
        refine wpAnyD_takeY (i := 5) (v := ?_) rfl (by kernel_rfl) (by kernel_rfl) (by kernel_rfl) (fun _ _ _ h => h) (Or.inl ⟨by rfl, ?_⟩) ?_
        rotate_left
        · intro wx; first | (go_simp; done) | (go_simp; with_reducible rfl)
        try simp only [Act.put, List.setIfInBounds_toArray, List.set_cons_zero, List.set_cons_succ, List.getElem_toArray, List.getElem_cons_succ, List.getElem_cons_zero]
        refine wpAnyD_take [11, 12, 13, 14, 17] (i := 6) (v := ?_) rfl (by kernel_rfl) (by kernel_rfl) (by kernel_rfl) (by kernel_rfl) (fun _ _ _ h => h) (Or.inl ⟨by rfl, ?_⟩) HS0 ?_
        rotate_left
        · rintro wx ⟨hx0, hx1, hx2, hx3, hx4, hx5⟩; have hx6 := (hx0.cell (p := ⟨w.heap.size + 1, 0, none⟩) hsl).trans s0; first | (go_simp; done) | (go_simp; with_reducible rfl)
        try simp only [Act.put, List.setIfInBounds_toArray, List.set_cons_zero, List.set_cons_succ, List.getElem_toArray, List.getElem_cons_succ, List.getElem_cons_zero]
        refine wpAnyD_takeY (i := 7) (v := ?_) rfl (by kernel_rfl) (by kernel_rfl) (by kernel_rfl) (fun _ _ _ h => h) (Or.inl ⟨by rfl, ?_⟩) ?_
        rotate_left
        · intro wx; first | (go_simp; done) | (go_simp; with_reducible rfl)
        try simp only [Act.put, List.setIfInBounds_toArray, List.set_cons_zero, List.set_cons_succ, List.getElem_toArray, List.getElem_cons_succ, List.getElem_cons_zero]
        refine wpAnyD_take [11, 12, 13, 14, 17] (i := 8) (v := ?_) rfl (by kernel_rfl) (by kernel_rfl) (by kernel_rfl) (by kernel_rfl) (fun _ _ _ h => h) (Or.inl ⟨by rfl, ?_⟩) HS0 ?_
        rotate_left
        · rintro wx ⟨hx0, hx1, hx2, hx3, hx4, hx5⟩; have hx6 := (hx0.cell (p := ⟨w.heap.size + 1, 0, none⟩) hsl).trans s0; first | (go_simp; done) | (go_simp; with_reducible rfl)
        try simp only [Act.put, List.setIfInBounds_toArray, List.set_cons_zero, List.set_cons_succ, List.getElem_toArray, List.getElem_cons_succ, List.getElem_cons_zero]
        refine wpAnyD_takeY (i := 9) (v := ?_) rfl (by kernel_rfl) (by kernel_rfl) (by kernel_rfl) (fun _ _ _ h => h) (Or.inl ⟨by rfl, ?_⟩) ?_
        rotate_left
        · intro wx; first | (go_simp; done) | (go_simp; with_reducible rfl)
        try simp only [Act.put, List.setIfInBounds_toArray, List.set_cons_zero, List.set_cons_succ, List.getElem_toArray, List.getElem_cons_succ, List.getElem_cons_zero]
        refine wpAnyD_take [11, 12, 13, 14, 17] (i := 10) (v := ?_) rfl (by kernel_rfl) (by kernel_rfl) (by kernel_rfl) (by kernel_rfl) (fun _ _ _ h => h) (Or.inl ⟨by rfl, ?_⟩) HS0 ?_
        rotate_left
        · rintro wx ⟨hx0, hx1, hx2, hx3, hx4, hx5⟩; have hx6 := (hx0.cell (p := ⟨w.heap.size + 1, 0, none⟩) hsl).trans s0; first | (go_simp; done) | (go_simp; with_reducible rfl)
        try simp only [Act.put, List.setIfInBounds_toArray, List.set_cons_zero, List.set_cons_succ, List.getElem_toArray, List.getElem_cons_succ, List.getElem_cons_zero]
        refine wpAnyD_takeY (i := 11) (v := ?_) rfl (by kernel_rfl) (by kernel_rfl) (by kernel_rfl) (fun _ _ _ h => h) (Or.inl ⟨by rfl, ?_⟩) ?_
        rotate_left
        · intro wx; first | (go_simp; done) | (go_simp; with_reducible rfl)
        try simp only [Act.put, List.setIfInBounds_toArray, List.set_cons_zero, List.set_cons_succ, List.getElem_toArray, List.getElem_cons_succ, List.getElem_cons_zero]
        refine wpAnyD_one (i := 12) (by kernel_rfl) rfl (fun K hK => ?_)
        try simp only [List.getElem_toArray, List.getElem_cons_succ, List.getElem_cons_zero]
        go_simp
        refine hK.out _ _ (.inr fun _ => hX.out _ (Below.drew ((Below.refl _ _).alloc (by simp) _))) ?_
        clear hK
        clear K
        try simp only [Act.put, List.setIfInBounds_toArray, List.set_cons_zero, List.set_cons_succ, List.getElem_toArray, List.getElem_cons_succ, List.getElem_cons_zero]
        refine wpAnyD_one (i := 13) (by kernel_rfl) rfl (fun K hK => ?_)
        try simp only [List.getElem_toArray, List.getElem_cons_succ, List.getElem_cons_zero]
        go_simp
        refine hK.out _ _ (.inr fun _ => hX.out _ (Below.drew (((Below.refl _ _).alloc (by simp) _).alloc (by simp) _))) ?_
        clear hK
        clear K
        try simp only [Act.put, List.setIfInBounds_toArray, List.set_cons_zero, List.set_cons_succ, List.getElem_toArray, List.getElem_cons_succ, List.getElem_cons_zero]
        refine wpAnyD_one (i := 14) (o := { dst := some 31, op := .call { callee := .builtin .append, args := #[.tmp 21, .tmp 30], argTypes := #[171, 171] }, type := 171, pos := "states.go:22", after := #[{ on := 4, ground := .data }, { on := 13, ground := .data }], guard := none }) (by kernel_rfl) rfl (fun K hK => ?_)
        refine step_append_lies _ rfl (.tmp 21) (.tmp 30) 171 rfl (w.heap.size + 1) 175 i0 _ 1 8 Tryz.underlying171 hi hz0 hz1 hz2 rfl (by decide) (.slice ae' m ce2) m _ (by simp [Act.eval, Act.put]) (by exact (HU.out _ _ _).drew) ⟨wr.heap.size + 1 + 1, 0, none⟩ 1 1 [ptr (wr.heap.size + 1)] (by simp [Act.eval, Act.put]) rfl (by exact news_one (by simp)) (by simp [Value.oneCell']) (by decide) (by unfold maxLen; omega) (by omega) (by simp; omega) _ rfl ?_
        intro g cap w2 hown hgrow hat hlt1
        obtain ⟨HM, e7, f7, hlt7⟩ := after_ev HR.out.1 HR.out.2.1 HR.out.2.2.2.2.2.2.2 hml e HR.out.2.2.2.2.2.1 HR.out.2.2.2.2.2.2.1 hown (grownDS hgrow) (by simpa using hat)
        clear hown hgrow hat
        refine hK.out _ _ (.inl (by simp)) ?_
        clear hK
        clear K
        try simp only [Act.put, List.setIfInBounds_toArray, List.set_cons_zero, List.set_cons_succ, List.getElem_toArray, List.getElem_cons_succ, List.getElem_cons_zero]
        refine wpAnyD_takeY (i := 15) (v := ?_) rfl (by kernel_rfl) (by kernel_rfl) (by kernel_rfl) (fun _ _ _ h => h) (Or.inl ⟨by rfl, ?_⟩) ?_
        rotate_left
        · intro wx; first | (go_simp; done) | (go_simp; with_reducible rfl)
        try simp only [Act.put, List.setIfInBounds_toArray, List.set_cons_zero, List.set_cons_succ, List.getElem_toArray, List.getElem_cons_succ, List.getElem_cons_zero]
        refine wpAnyD_takeY (i := 16) (v := ?_) rfl (by kernel_rfl) (by kernel_rfl) (by kernel_rfl) (fun _ _ _ h => h) (Or.inl ⟨by rfl, ?_⟩) ?_
        rotate_left
        · intro wx; first | (go_simp; done) | (go_simp; with_reducible rfl)
        try simp only [Act.put, List.setIfInBounds_toArray, List.set_cons_zero, List.set_cons_succ, List.getElem_toArray, List.getElem_cons_succ, List.getElem_cons_zero]
        refine wpAnyD_one (i := 17) (by kernel_rfl) rfl (fun K hK => ?_)
        try simp only [List.getElem_toArray, List.getElem_cons_succ, List.getElem_cons_zero]
        go_simp
        refine hK.out _ _ (.inl (by simp)) ?_
        clear hK
        clear K
        try simp only [Act.put, List.setIfInBounds_toArray, List.set_cons_zero, List.set_cons_succ, List.getElem_toArray, List.getElem_cons_succ, List.getElem_cons_zero]
        refine wpAnyD_done (by kernel_rfl) ?_ _
        go_wp2_with fail
        go_meet
        case rel =>
          obtain ⟨a', ⟨hs', hrv'⟩, hS', hb'⟩ := HM.out
          exact ⟨rfl, a', ⟨hs', by rw [hrv', HRV.out, List.take_add_one, HVm.out]; rfl⟩, by rw [List.take_add_one, HR.out.2.2.2.2.1]; exact drewS hS', drewB (HR.out.2.2.2.1.trans hb')⟩
      case rest =>
        obtain ⟨rfl, hcut2⟩ := hcut
        have HC : Hid (∃ a', (a'.sb = w.heap.size + 1 ∧ a'.rv = rv.take (m + 1)) ∧ StAt (w.heap.size + 1) wc (es.take (m + 1)) [] a' ∧ Below (w.heap.size + 1) (w.alloc (.cells #[.slice (some ⟨ge, 0, none⟩) es.length ce, .slice ar rs.length cr] 91)) wc) := hcut2
        clear hcut2
        go_wp2_with fail
        go_roundg (es.length - (m + 1))
        case measure => omega
        case rel =>
          obtain ⟨a', h1, h2, h3⟩ := HC.out
          exact ⟨m + 1, a', by go_num, by omega, h1, h2, h3⟩
    · have hn' : m = es.length := by omega
      subst hn'
      rw [List.take_length] at hS
      have q0 : wr.heap[w.heap.size]? = some (.cells #[.slice ae es.length ce, .slice ar rs.length cr] 91 (0, 0)) := (hb.block _ (by omega)).trans (heap_alloc_new _ _)
      have hql : w.heap.size < wr.heap.size := (Array.getElem?_eq_some_iff.1 q0).1
      obtain ⟨a0, a1, fa⟩ := cells2 q0
      have HB : Hid (StAt (w.heap.size + 1) wr es [] a ∧ Below (w.heap.size + 1) (w.alloc (.cells #[.slice ae es.length ce, .slice ar rs.length cr] 91)) wr ∧ a.sb = w.heap.size + 1 ∧ a.rv = rv) := ⟨hS, hb, hsb, by rw [HRV.out, ← H.out.1.len, List.take_length]⟩
      clear hS hb hw q0 hlt hsb HRV
      obtain ⟨wq, hwq⟩ : ∃ wq, wq = wr := ⟨_, rfl⟩
      subst hwq
      go_wp2_with fail
      go_loopg [38] rs.length (fun g i wr => ∃ (m : Nat) (a : SA), i = .int .i64 m ∧ m + g = rs.length ∧ (a.sb = w.heap.size + 1 ∧ a.rv = rv) ∧ StAt (w.heap.size + 1) wr es (rs.take m) a ∧ Below (w.heap.size + 1) (w.alloc (.cells #[.slice ae es.length ce, .slice ar rs.length cr] 91)) wr)
      case atStart => exact ⟨0, a, rfl, by omega, HB.out.2.2, HB.out.1, HB.out.2.1⟩
      case round =>
        obtain ⟨m, a, rfl, hm2, ⟨hsb, harv⟩, hS, hb⟩ := hrel
        have HRV : Hid (a.rv = rv) := harv
        clear harv
        have hw : Below w.heap.size w wr := ((Below.refl _ _).alloc (Nat.le_refl _) _).trans (hb.mono (by omega))
        by_cases hlt : m < rs.length
        · obtain ⟨r, hr⟩ : ∃ r, rs[m]? = some r := ⟨_, List.getElem?_eq_getElem hlt⟩
          have G := H.out.1.below (Nat.le_refl _) hw
          obtain ⟨ge, ce', hge, _, _⟩ := G.rls.form (by omega)
          injection hge with hge1 hge2 hge3
          subst hge1
          subst hge3
          have c0 := own_cell G.rls ((Dsr.flatM 3 rlC (fun _ => rfl) rs m r 0 hr (by omega)).trans rfl)
          have c1 := own_cell G.rls ((Dsr.flatM 3 rlC (fun _ => rfl) rs m r 1 hr (by omega)).trans rfl)
          have c2 := own_cell G.rls ((Dsr.flatM 3 rlC (fun _ => rfl) rs m r 2 hr (by omega)).trans rfl)
          rw [Nat.add_zero] at c0
          obtain ⟨ae', ce2, ar', cr', hve, hvr⟩ := hS.shapes
          have hblk := hS.blk
          rw [hve, hvr, hsb] at hblk
          obtain ⟨s0, s1, sf⟩ := cells2 hblk
          have hsl := hS.sbLt.2
          rw [hsb] at hsl
          have hml : (rs.take m).length = m := by simp; omega
          rw [hml] at s1
          have hkn := H.out.2.known r (List.mem_of_getElem? hr)
          have HR : Hid (StAt (w.heap.size + 1) wr es (rs.take m) a ∧ a.vr = .slice ar' (rs.take m).length cr' ∧ Below (w.heap.size + 1) (w.alloc (.cells #[.slice ae es.length ce, .slice (some ⟨ge, 0, none⟩) rs.length cr] 91)) wr ∧ rs[m]? = some r ∧ a.sb = w.heap.size + 1 ∧ r.left ∈ nms es ∧ r.right ∈ nms es) := ⟨hS, hvr, hb, hr, hsb, hkn.1, hkn.2⟩
          clear hS hb hr G hw hve hvr hblk hkn
          obtain ⟨lb, hlb⟩ : ∃ lb, lb = ebOf (nms es) a.eb r.left := ⟨_, rfl⟩
          obtain ⟨rb, hrb⟩ : ∃ rb, rb = ebOf (nms es) a.eb r.right := ⟨_, rfl⟩
          have HFa : Hid (∀ W : World, Below wr.heap.size wr W → Calls Tryz.prog 85 #[ptr (w.heap.size + 1), strV r.left] W fun x w' => x = .returned (ptr lb) ∧ Below wr.heap.size wr w' ∧ Below W.heap.size W w') := fun W hW => by
            have L := find_any (HR.out.1.below hW) (H.out.2.sub (rs.take m) (fun r hr => List.mem_of_mem_take hr)) r.left
            rw [HR.out.2.2.2.2.1, evPtr, if_pos HR.out.2.2.2.2.2.1, ← hlb] at L
            exact L.mono (fun x w' ⟨e1, e2⟩ => ⟨e1, hW.trans (e2.mono hW.size), e2⟩)
          have HFb : Hid (∀ W : World, Below wr.heap.size wr W → Calls Tryz.prog 85 #[ptr (w.heap.size + 1), strV r.right] W fun x w' => x = .returned (ptr rb) ∧ Below wr.heap.size wr w' ∧ Below W.heap.size W w') := fun W hW => by
            have L := find_any (HR.out.1.below hW) (H.out.2.sub (rs.take m) (fun r hr => List.mem_of_mem_take hr)) r.right
            rw [HR.out.2.2.2.2.1, evPtr, if_pos HR.out.2.2.2.2.2.2, ← hrb] at L
            exact L.mono (fun x w' ⟨e1, e2⟩ => ⟨e1, hW.trans (e2.mono hW.size), e2⟩)
          have HU : Hid (∀ W : World, Below wr.heap.size wr W → W.ownsRow (w.heap.size + 1) 180 3 (.slice ar' m cr') m ((rs.take m).flatMap (ruS (nms es) a.eb))) := fun W hW => by
            have := (HR.out.1.below hW).own1
            rw [HR.out.2.1, hml] at this
            exact this
          have sW : ∀ W : World, Below wr.heap.size wr W → W.cell? ⟨w.heap.size + 1, 1, none⟩ = some (.slice ar' m cr') := fun W hW => (hW.cell (p := ⟨w.heap.size + 1, 1, none⟩) hsl).trans s1
          have HL : Hid (lb = ebOf (nms es) a.eb r.left ∧ rb = ebOf (nms es) a.eb r.right) := ⟨hlb, hrb⟩
          clear hlb hrb
          have hBw : w.heap.size + 1 ≤ wr.heap.size := by omega
          go_upto_block 3 with fail
          go_cut [38] (fun i wd => i = .int .i64 m ∧ ∃ a', (a'.sb = w.heap.size + 1 ∧ a'.rv = rv) ∧ StAt (w.heap.size + 1) wd es (rs.take (m + 1)) a' ∧ Below (w.heap.size + 1) (w.alloc (.cells #[.slice ae es.length ce, .slice (some ⟨ge, 0, none⟩) rs.length cr] 91)) wd)
          case first =>
            go_wp2_with fail
            refine wp_region_D (fun w' => Below wr.heap.size wr w' ∧ w'.cell? ⟨wr.heap.size, 0, none⟩ = some (strV r.left) ∧ w'.cell? ⟨wr.heap.size, 1, none⟩ = some (strV r.right) ∧ w'.cell? ⟨wr.heap.size, 2, none⟩ = some (.int .u8 r.kind) ∧ wr.heap.size < w'.heap.size) [17, 20] (by kernel_rfl) ?_
            have hS0 : Hid (Below wr.heap.size wr (wr.alloc (.cells #[strV r.left, strV r.right, .int .u8 r.kind] 150)).drew ∧ (wr.alloc (.cells #[strV r.left, strV r.right, .int .u8 r.kind] 150)).drew.cell? ⟨wr.heap.size, 0, none⟩ = some (strV r.left) ∧ (wr.alloc (.cells #[strV r.left, strV r.right, .int .u8 r.kind] 150)).drew.cell? ⟨wr.heap.size, 1, none⟩ = some (strV r.right) ∧ (wr.alloc (.cells #[strV r.left, strV r.right, .int .u8 r.kind] 150)).drew.cell? ⟨wr.heap.size, 2, none⟩ = some (.int .u8 r.kind) ∧ wr.heap.size < (wr.alloc (.cells #[strV r.left, strV r.right, .int .u8 r.kind] 150)).drew.heap.size) := by
              have hbd : Below wr.heap.size wr (wr.alloc (.cells #[strV r.left, strV r.right, .int .u8 r.kind] 150)).drew := Below.drew (Below.alloc (Below.refl _ _) (Nat.le_refl _) _)
              exact ⟨hbd, rcells (Below.refl _ _) rfl⟩
            refine wpAnyD_takeY (i := 0) (v := ?_) rfl (by kernel_rfl) (by kernel_rfl) (by kernel_rfl) (fun _ _ _ h => h) (Or.inl ⟨by rfl, ?_⟩) ?_
            rotate_left
            · intro wx; first | (go_simp; done) | (go_simp; with_reducible rfl)
            try simp only [Act.put, List.setIfInBounds_toArray, List.set_cons_zero, List.set_cons_succ, List.getElem_toArray, List.getElem_cons_succ, List.getElem_cons_zero]
            refine wpAnyD_takeY (i := 1) (v := ?_) rfl (by kernel_rfl) (by kernel_rfl) (by kernel_rfl) (fun _ _ _ h => h) (Or.inl ⟨by rfl, ?_⟩) ?_
            rotate_left
            · intro wx; first | (go_simp; done) | (go_simp; with_reducible rfl)
            try simp only [Act.put, List.setIfInBounds_toArray, List.set_cons_zero, List.set_cons_succ, List.getElem_toArray, List.getElem_cons_succ, List.getElem_cons_zero]
            refine wpAnyD_takeY (i := 2) (v := ?_) rfl (by kernel_rfl) (by kernel_rfl) (by kernel_rfl) (fun _ _ _ h => h) (Or.inl ⟨by rfl, ?_⟩) ?_
            rotate_left
            · intro wx; first | (go_simp; done) | (go_simp; with_reducible rfl)
            try simp only [Act.put, List.setIfInBounds_toArray, List.set_cons_zero, List.set_cons_succ, List.getElem_toArray, List.getElem_cons_succ, List.getElem_cons_zero]
            refine wpAnyD_takeY (i := 3) (v := ?_) rfl (by kernel_rfl) (by kernel_rfl) (by kernel_rfl) (fun _ _ _ h => h) (Or.inl ⟨by rfl, ?_⟩) ?_
            rotate_left
            · intro wx; first | (go_simp; done) | (go_simp; with_reducible rfl)
            try simp only [Act.put, List.setIfInBounds_toArray, List.set_cons_zero, List.set_cons_succ, List.getElem_toArray, List.getElem_cons_succ, List.getElem_cons_zero]
            refine wpAnyD_take [17, 20] (i := 4) (v := ?_) rfl (by kernel_rfl) (by kernel_rfl) (by kernel_rfl) (by kernel_rfl) (fun _ _ _ h => h) (Or.inl ⟨by rfl, ?_⟩) hS0.out ?_
            rotate_left
            · rintro wx ⟨hx0, hx1, hx2, hx3, hx4⟩; have hx5 := sW wx hx0; first | (go_simp; done) | (go_simp; with_reducible rfl)
            try simp only [Act.put, List.setIfInBounds_toArray, List.set_cons_zero, List.set_cons_succ, List.getElem_toArray, List.getElem_cons_succ, List.getElem_cons_zero]
            refine wpAnyD_takeY (i := 5) (v := ?_) rfl (by kernel_rfl) (by kernel_rfl) (by kernel_rfl) (fun _ _ _ h => h) (Or.inl ⟨by rfl, ?_⟩) ?_
            rotate_left
            · intro wx; first | (go_simp; done) | (go_simp; with_reducible rfl)
            try simp only [Act.put, List.setIfInBounds_toArray, List.set_cons_zero, List.set_cons_succ, List.getElem_toArray, List.getElem_cons_succ, List.getElem_cons_zero]
            refine wpAnyD_take [15, 16, 17, 20] (i := 6) (v := ?_) rfl (by kernel_rfl) (by kernel_rfl) (by kernel_rfl) (by kernel_rfl) (fun _ _ _ h => h) (Or.inl ⟨by rfl, ?_⟩) hS0.out ?_
            rotate_left
            · rintro wx ⟨hx0, hx1, hx2, hx3, hx4⟩; have hx5 := sW wx hx0; first | (go_simp; done) | (go_simp; with_reducible rfl)
            try simp only [Act.put, List.setIfInBounds_toArray, List.set_cons_zero, List.set_cons_succ, List.getElem_toArray, List.getElem_cons_succ, List.getElem_cons_zero]
            refine wpAnyD_takeY (i := 7) (v := ?_) rfl (by kernel_rfl) (by kernel_rfl) (by kernel_rfl) (fun _ _ _ h => h) (Or.inl ⟨by rfl, ?_⟩) ?_
            rotate_left
            · intro wx; first | (go_simp; done) | (go_simp; with_reducible rfl)
            try simp only [Act.put, List.setIfInBounds_toArray, List.set_cons_zero, List.set_cons_succ, List.getElem_toArray, List.getElem_cons_succ, List.getElem_cons_zero]
            refine wpAnyD_takeY (i := 8) (v := ?_) rfl (by kernel_rfl) (by kernel_rfl) (by kernel_rfl) (fun _ _ _ h => h) (Or.inl ⟨by rfl, ?_⟩) ?_
            rotate_left
            · intro wx; first | (go_simp; done) | (go_simp; with_reducible rfl)
            try simp only [Act.put, List.setIfInBounds_toArray, List.set_cons_zero, List.set_cons_succ, List.getElem_toArray, List.getElem_cons_succ, List.getElem_cons_zero]
            refine wpAnyD_take [10, 15, 16, 17, 20] (i := 9) (v := ?_) rfl (by kernel_rfl) (by kernel_rfl) (by kernel_rfl) (by kernel_rfl) (fun _ _ _ h => h) (Or.inl ⟨by rfl, ?_⟩) hS0.out ?_
            rotate_left
            · rintro wx ⟨hx0, hx1, hx2, hx3, hx4⟩; have hx5 := sW wx hx0; first | (go_simp; done) | (go_simp; with_reducible rfl)
            try simp only [Act.put, List.setIfInBounds_toArray, List.set_cons_zero, List.set_cons_succ, List.getElem_toArray, List.getElem_cons_succ, List.getElem_cons_zero]
            refine wpAnyD_takeY (i := 11) (v := ?_) rfl (by kernel_rfl) (by kernel_rfl) (by kernel_rfl) (fun _ _ _ h => h) (Or.inl ⟨by rfl, ?_⟩) ?_
            rotate_left
            · intro wx; first | (go_simp; done) | (go_simp; with_reducible rfl)
            try simp only [Act.put, List.setIfInBounds_toArray, List.set_cons_zero, List.set_cons_succ, List.getElem_toArray, List.getElem_cons_succ, List.getElem_cons_zero]
            refine wpAnyD_takeY (i := 12) (v := ?_) rfl (by kernel_rfl) (by kernel_rfl) (by kernel_rfl) (fun _ _ _ h => h) (Or.inl ⟨by rfl, ?_⟩) ?_
            rotate_left
            · intro wx; first | (go_simp; done) | (go_simp; with_reducible rfl)
            try simp only [Act.put, List.setIfInBounds_toArray, List.set_cons_zero, List.set_cons_succ, List.getElem_toArray, List.getElem_cons_succ, List.getElem_cons_zero]
            refine wpAnyD_take [14, 15, 16, 17, 20] (i := 13) (v := ?_) rfl (by kernel_rfl) (by kernel_rfl) (by kernel_rfl) (by kernel_rfl) (fun _ _ _ h => h) (Or.inl ⟨by rfl, ?_⟩) hS0.out ?_
            rotate_left
            · rintro wx ⟨hx0, hx1, hx2, hx3, hx4⟩; have hx5 := sW wx hx0; first | (go_simp; done) | (go_simp; with_reducible rfl)
            try simp only [Act.put, List.setIfInBounds_toArray, List.set_cons_zero, List.set_cons_succ, List.getElem_toArray, List.getElem_cons_succ, List.getElem_cons_zero]
            refine wpAnyD_one (i := 10) (by kernel_rfl) rfl (fun K hK => ?_)
            try simp only [List.getElem_toArray, List.getElem_cons_succ, List.getElem_cons_zero]
            go_simp
            go_at_call 85
            refine (HFa.out _ hS0.out.1).mono ?_
            rintro x w1 ⟨rfl, hb1, hc1⟩
            have hS1 : Hid (Below wr.heap.size wr w1 ∧ w1.cell? ⟨wr.heap.size, 0, none⟩ = some (strV r.left) ∧ w1.cell? ⟨wr.heap.size, 1, none⟩ = some (strV r.right) ∧ w1.cell? ⟨wr.heap.size, 2, none⟩ = some (.int .u8 r.kind) ∧ wr.heap.size < w1.heap.size) := ⟨hb1, rcells hc1 rfl⟩
            clear hc1
            dsimp only
            refine hK.out _ _ (.inr fun _ => hS1.out) ?_
            clear hK
            clear K
            try simp only [Act.put, List.setIfInBounds_toArray, List.set_cons_zero, List.set_cons_succ, List.getElem_toArray, List.getElem_cons_succ, List.getElem_cons_zero]
            refine wpAnyD_one (i := 14) (by kernel_rfl) rfl (fun K hK => ?_)
            try simp only [List.getElem_toArray, List.getElem_cons_succ, List.getElem_cons_zero]
            go_simp
            go_at_call 85
            refine (HFb.out _ hS1.out.1).mono ?_
            rintro x w2 ⟨rfl, hb2, hc2⟩
            have hS2 : Hid (Below wr.heap.size wr w2 ∧ w2.cell? ⟨wr.heap.size, 0, none⟩ = some (strV r.left) ∧ w2.cell? ⟨wr.heap.size, 1, none⟩ = some (strV r.right) ∧ w2.cell? ⟨wr.heap.size, 2, none⟩ = some (.int .u8 r.kind) ∧ wr.heap.size < w2.heap.size) := ⟨hb2, (hc2.cell (p := ⟨wr.heap.size, 0, none⟩) hS1.out.2.2.2.2).trans hS1.out.2.1, (hc2.cell (p := ⟨wr.heap.size, 1, none⟩) hS1.out.2.2.2.2).trans hS1.out.2.2.1, (hc2.cell (p := ⟨wr.heap.size, 2, none⟩) hS1.out.2.2.2.2).trans hS1.out.2.2.2.1, Nat.lt_of_lt_of_le hS1.out.2.2.2.2 hc2.size⟩
            clear hc2 hS1 hb1
            dsimp only
            refine hK.out _ _ (.inr fun _ => hS2.out) ?_
            clear hK
            clear K
            try simp only [Act.put, List.setIfInBounds_toArray, List.set_cons_zero, List.set_cons_succ, List.getElem_toArray, List.getElem_cons_succ, List.getElem_cons_zero]
            refine wpAnyD_takeY (i := 15) (v := ?_) rfl (by kernel_rfl) (by kernel_rfl) (by kernel_rfl) (fun _ _ _ h => h) (Or.inl ⟨by rfl, ?_⟩) ?_
            rotate_left
            · intro wx; first | (go_simp; done) | (go_simp; with_reducible rfl)
            try simp only [Act.put, List.setIfInBounds_toArray, List.set_cons_zero, List.set_cons_succ, List.getElem_toArray, List.getElem_cons_succ, List.getElem_cons_zero]
            refine wpAnyD_one (i := 16) (by kernel_rfl) rfl (fun K hK => ?_)
            try simp only [List.getElem_toArray, List.getElem_cons_succ, List.getElem_cons_zero]
            go_simp
            refine hK.out _ _ (.inr fun _ => ⟨hb2.alloc hb2.size _, ?_⟩) ?_
            · exact ⟨(World.cell?_alloc_lt _ _ _ (by exact hS2.out.2.2.2.2)).trans hS2.out.2.1, (World.cell?_alloc_lt _ _ _ (by exact hS2.out.2.2.2.2)).trans hS2.out.2.2.1, (World.cell?_alloc_lt _ _ _ (by exact hS2.out.2.2.2.2)).trans hS2.out.2.2.2.1, by have := hS2.out.2.2.2.2; simp; omega⟩
            clear hK
            clear K
            try simp only [Act.put, List.setIfInBounds_toArray, List.set_cons_zero, List.set_cons_succ, List.getElem_toArray, List.getElem_cons_succ, List.getElem_cons_zero]
            refine wpAnyD_one (i := 17) (o := { dst := some 59, op := .call { callee := .builtin .append, args := #[.tmp 46, .tmp 58], argTypes := #[172, 172] }, type := 172, pos := "states.go:25", after := #[{ on := 4, ground := .data }, { on := 16, ground := .data }, { on := 14, ground := .chain }], guard := none }) (by kernel_rfl) rfl (fun K hK => ?_)
            refine step_append_lies _ rfl (.tmp 46) (.tmp 58) 172 rfl (w.heap.size + 1) 180 i1 _ 3 24 Tryz.underlying172 hi1 hy0 hy1 hy2 rfl (by decide) (.slice ar' m cr') m _ (by simp [Act.eval, Act.put]) (by exact (HU.out _ hb2).alloc _) ⟨w2.heap.size, 0, none⟩ 1 1 [.int .u8 r.kind, ptr lb, ptr rb] (by simp [Act.eval, Act.put]) rfl (by exact news_three rfl) (by simp [Value.oneCell']) (by decide) (by unfold maxLen; omega) (by omega) (by have := hb2.size; simp; omega) _ rfl ?_
            intro g cap w3 hown hgrow hat hlt1
            obtain ⟨HM, e7, f7, hlt7⟩ := after_ru HR.out.1 hb2 HR.out.2.1 HR.out.2.2.2.2.1 hml r HL.out.1 HL.out.2 hown hgrow (by simpa using hat)
            clear hown hgrow hat
            refine hK.out _ _ (.inl (by simp)) ?_
            clear hK
            clear K
            try simp only [Act.put, List.setIfInBounds_toArray, List.set_cons_zero, List.set_cons_succ, List.getElem_toArray, List.getElem_cons_succ, List.getElem_cons_zero]
            refine wpAnyD_takeY (i := 18) (v := ?_) rfl (by kernel_rfl) (by kernel_rfl) (by kernel_rfl) (fun _ _ _ h => h) (Or.inl ⟨by rfl, ?_⟩) ?_
            rotate_left
            · intro wx; first | (go_simp; done) | (go_simp; with_reducible rfl)
            try simp only [Act.put, List.setIfInBounds_toArray, List.set_cons_zero, List.set_cons_succ, List.getElem_toArray, List.getElem_cons_succ, List.getElem_cons_zero]
            refine wpAnyD_takeY (i := 19) (v := ?_) rfl (by kernel_rfl) (by kernel_rfl) (by kernel_rfl) (fun _ _ _ h => h) (Or.inl ⟨by rfl, ?_⟩) ?_
            rotate_left
            · intro wx; first | (go_simp; done) | (go_simp; with_reducible rfl)
            try simp only [Act.put, List.setIfInBounds_toArray, List.set_cons_zero, List.set_cons_succ, List.getElem_toArray, List.getElem_cons_succ, List.getElem_cons_zero]
            refine wpAnyD_one (i := 20) (by kernel_rfl) rfl (fun K hK => ?_)
            try simp only [List.getElem_toArray, List.getElem_cons_succ, List.getElem_cons_zero]
            go_simp
            refine hK.out _ _ (.inl (by simp)) ?_
            clear hK
            clear K
            try simp only [Act.put, List.setIfInBounds_toArray, List.set_cons_zero, List.set_cons_succ, List.getElem_toArray, List.getElem_cons_succ, List.getElem_cons_zero]
            refine wpAnyD_done (by kernel_rfl) ?_ _
            go_wp2_with fail
            go_meet
            case rel =>
              obtain ⟨a', ⟨hs', hrv'⟩, hS', hb'⟩ := HM.out
              exact ⟨rfl, a', ⟨hs', by rw [hrv', HRV.out]⟩, by rw [List.take_add_one, HR.out.2.2.2.1]; exact hS', HR.out.2.2.1.trans hb'⟩
          case rest =>
            obtain ⟨rfl, hcut2⟩ := hcut
            have HC : Hid (∃ a', (a'.sb = w.heap.size + 1 ∧ a'.rv = rv) ∧ StAt (w.heap.size + 1) wc es (rs.take (m + 1)) a' ∧ Below (w.heap.size + 1) (w.alloc (.cells #[.slice ae es.length ce, .slice (some ⟨ge, 0, none⟩) rs.length cr] 91)) wc) := hcut2
            clear hcut2
            go_wp2_with fail
            go_roundg (rs.length - (m + 1))
            case measure => omega
            case rel =>
              obtain ⟨a', h1, h2, h3⟩ := HC.out
              exact ⟨m + 1, a', by go_num, by omega, h1, h2, h3⟩
        · have HE : Hid (StAt (w.heap.size + 1) wr es rs a ∧ Below w.heap.size w wr ∧ a.sb = w.heap.size + 1) := ⟨by rw [List.take_of_length_le (by omega)] at hS; exact hS, hw, hsb⟩
          clear hS hb hw
          go_wp2_with fail
          go_ret
          exact ⟨a, by rw [HE.out.2.2]; rfl, HE.out.1, HE.out.2.1, HRV.out⟩
end Go.Proofs.YtjmcokcdaddpcaaGreatDoor
