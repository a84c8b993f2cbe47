import Derived.Test.YtjmcokcdaddpcaaGreatDoorCpC
set_option linter.unusedVariables false
set_option linter.unusedSimpArgs false
namespace Go.Proofs.YtjmcokcdaddpcaaGreatDoor
open Go.RowKit
/-- A graph behind a pointer. -/
structure GS (B G : Nat) (w : World) (ps : List EvS) (rs : List Dsr.Rl) (ve vr : Value) : Prop where
  low : B ≤ G
  blk : w.heap[G]? = some (.cells #[ve, vr] 91 (0, 0))
  evs : w.ownsRow B 144 5 ve ps.length (ps.flatMap encE)
  rls : w.ownsRow B 150 3 vr rs.length (rs.flatMap rlC)
  rol : ∀ p ∈ ps, w.ownsRow B 9 1 (slV p.2) p.1.roles.length (p.1.roles.map strV)
  apart : (some G :: ve.ownBlock :: vr.ownBlock :: ps.map (fun p => (slV p.2).ownBlock)).Pairwise Differ
theorem GS.lt {B G : Nat} {w : World} {ps : List EvS} {rs : List Dsr.Rl} {ve vr : Value} (h : GS B G w ps rs ve vr) : G < w.heap.size := (Array.getElem?_eq_some_iff.1 h.blk).1
theorem GS.below {B G : Nat} {w w' : World} {ps : List EvS} {rs : List Dsr.Rl} {ve vr : Value} (h : GS B G w ps rs ve vr) (hb : Below w.heap.size w w') : GS B G w' ps rs ve vr :=
  ⟨h.low, by rw [hb.block _ h.lt]; exact h.blk, ownsRow_of_block h.evs (fun k hk _ => hb.block k hk), ownsRow_of_block h.rls (fun k hk _ => hb.block k hk), fun p hp => ownsRow_of_block (h.rol p hp) (fun k hk _ => hb.block k hk), h.apart⟩
theorem differ_ne' {x y : Option Nat} (hd : Differ x y) {k : Nat} (hy : y = some k) : x ≠ some k := fun hx => differ_ne hd hx hy
/-- The events' row is written anew. -/
theorem GS.putE {B G : Nat} {w w' : World} {ps ps' : List EvS} {rs : List Dsr.Rl} {ve vr : Value} (h : GS B G w ps rs ve vr) (hp : ps'.Perm ps) (ho : w'.ownsRow B 144 5 ve ps'.length (ps'.flatMap encE)) (hg : w.grownBy w' ve.ownBlock) : GS B G w' ps' rs ve vr := by
  have ha := h.apart
  simp only [List.pairwise_cons, List.forall_mem_cons] at ha
  obtain ⟨⟨b1, b2, b4⟩, ⟨e1, e3⟩, r2, p2⟩ := ha
  refine ⟨h.low, ?_, ho, ?_, ?_, ?_⟩
  · rw [hg.block G h.lt (fun e => differ_ne b1 rfl e.symm)]; exact h.blk
  · exact ownsRow_of_block h.rls fun k hk hv => hg.block k hk (fun e => differ_ne e1 e.symm hv)
  · intro p hpp
    have hm := hp.mem_iff.1 hpp
    exact ownsRow_of_block (h.rol p hm) fun k hk hv => hg.block k hk (fun e => differ_ne (e3 _ (List.mem_map.2 ⟨p, hm, rfl⟩)) e.symm hv)
  · have hpm := hp.map (fun p : EvS => (slV p.2).ownBlock)
    simp only [List.pairwise_cons, List.forall_mem_cons]
    refine ⟨⟨b1, b2, fun y hy => b4 y (hpm.mem_iff.1 hy)⟩, ⟨e1, fun y hy => e3 y (hpm.mem_iff.1 hy)⟩, fun y hy => r2 y (hpm.mem_iff.1 hy), ?_⟩
    exact (hpm.pairwise_iff (fun {a b} hab => differ_symm hab)).2 p2
/-- The rules' row is written anew; the slice may be cut. -/
theorem GS.putR {B G : Nat} {w w' : World} {ps : List EvS} {rs rs' : List Dsr.Rl} {ve vr : Value} (h : GS B G w ps rs ve vr) (ho : w'.ownsRow B 150 3 vr rs'.length (rs'.flatMap rlC)) (hg : w.grownBy w' vr.ownBlock) : GS B G w' ps rs' ve vr := by
  have ha := h.apart
  simp only [List.pairwise_cons, List.forall_mem_cons] at ha
  obtain ⟨⟨b1, b2, b4⟩, ⟨e1, e3⟩, r2, p2⟩ := ha
  refine ⟨h.low, ?_, ?_, ho, ?_, h.apart⟩
  · rw [hg.block G h.lt (fun e => differ_ne b2 rfl e.symm)]; exact h.blk
  · exact ownsRow_of_block h.evs fun k hk hv => hg.block k hk (fun e => differ_ne e1 hv e.symm)
  · intro p hm
    exact ownsRow_of_block (h.rol p hm) fun k hk hv => hg.block k hk (fun e => differ_ne (r2 _ (List.mem_map.2 ⟨p, hm, rfl⟩)) e.symm hv)
def sortRoles (p : EvS) : EvS := ({ p.1 with roles := p.1.roles.mergeSort fun x y => decide (x ≤ y) }, p.2)
/-- The roles of one event are put in order. -/
theorem GS.putS {B G : Nat} {w w' : World} {ps : List EvS} {rs : List Dsr.Rl} {ve vr : Value} (h : GS B G w ps rs ve vr) {i : Nat} {p : EvS} (hi : ps[i]? = some p) (ho : w'.ownsRow B 9 1 (slV p.2) p.1.roles.length ((p.1.roles.mergeSort fun x y => decide (x ≤ y)).map strV)) (hg : w.grownBy w' (slV p.2).ownBlock) : GS B G w' (ps.set i (sortRoles p)) rs ve vr := by
  have hil : i < ps.length := (List.getElem?_eq_some_iff.1 hi).1
  have hip : ps[i] = p := (List.getElem?_eq_some_iff.1 hi).2
  have ha := h.apart
  simp only [List.pairwise_cons, List.forall_mem_cons] at ha
  obtain ⟨⟨b1, b2, b4⟩, ⟨e1, e3⟩, r2, p2⟩ := ha
  have hpm : p ∈ ps := List.mem_of_getElem? hi
  have hpo : (slV p.2).ownBlock ∈ ps.map (fun p => (slV p.2).ownBlock) := List.mem_map.2 ⟨p, hpm, rfl⟩
  have hflat : (ps.set i (sortRoles p)).flatMap encE = ps.flatMap encE := by
    have : (ps.set i (sortRoles p)).map encE = ps.map encE := by
      rw [List.map_set]
      apply List.ext_getElem?
      intro j
      rw [List.getElem?_set]
      split
      · rename_i hij; subst hij
        simp only [List.length_map, hil, if_true, List.getElem?_map, hi, Option.map_some]
        rfl
      · rfl
    rw [List.flatMap_def, List.flatMap_def, this]
  have hown : (ps.set i (sortRoles p)).map (fun p => (slV p.2).ownBlock) = ps.map (fun p => (slV p.2).ownBlock) := by
    rw [List.map_set]
    apply List.ext_getElem?
    intro j
    rw [List.getElem?_set]
    split
    · rename_i hij; subst hij
      simp only [List.length_map, hil, if_true, List.getElem?_map, hi, Option.map_some]
      rfl
    · rfl
  refine ⟨h.low, ?_, ?_, ?_, ?_, by rw [hown]; exact h.apart⟩
  · rw [hg.block G h.lt (fun e => differ_ne (b4 _ hpo) rfl e.symm)]; exact h.blk
  · rw [hflat, List.length_set]
    exact ownsRow_of_block h.evs fun k hk hv => hg.block k hk (fun e => differ_ne (e3 _ hpo) hv e.symm)
  · exact ownsRow_of_block h.rls fun k hk hv => hg.block k hk (fun e => differ_ne (r2 _ hpo) hv e.symm)
  · intro q hq
    obtain ⟨j, hj, hjq⟩ := List.getElem_of_mem hq
    have hjl : j < ps.length := by simpa using hj
    by_cases hij : i = j
    · subst hij
      rw [List.getElem_set_self] at hjq
      subst hjq
      show w'.ownsRow B 9 1 (slV p.2) (p.1.roles.mergeSort fun x y => decide (x ≤ y)).length _
      rw [List.length_mergeSort]
      exact ho
    · rw [List.getElem_set_ne hij] at hjq
      subst hjq
      refine ownsRow_of_block (h.rol _ (List.getElem_mem hjl)) fun k hk hv => hg.block k hk (fun e => ?_)
      have hd : Differ ((ps.map (fun p => (slV p.2).ownBlock))[i]'(by simpa using hil)) ((ps.map (fun p => (slV p.2).ownBlock))[j]'(by simpa using hjl)) := by
        rcases Nat.lt_or_ge i j with hlt | hge
        · exact List.pairwise_iff_getElem.1 p2 i j _ _ hlt
        · exact differ_symm (List.pairwise_iff_getElem.1 p2 j i _ _ (by omega))
      simp only [List.getElem_map, hip] at hd
      exact differ_ne hd e.symm hv
end Go.Proofs.YtjmcokcdaddpcaaGreatDoor
namespace Go.Proofs.YtjmcokcdaddpcaaGreatDoor
open Go.RowKit
/-- The first n events' roles are in order. -/
def sorted1 (ps : List EvS) (n : Nat) : List EvS := (ps.take n).map sortRoles ++ ps.drop n
theorem sorted1_len (ps : List EvS) (n : Nat) : (sorted1 ps n).length = ps.length := by simp [sorted1]; omega
theorem sorted1_at (ps : List EvS) (n : Nat) (h : n < ps.length) : (sorted1 ps n)[n]? = ps[n]? := by
  unfold sorted1
  rw [List.getElem?_append_right (by simp; omega)]
  simp only [List.length_map, List.length_take, List.getElem?_drop]
  congr 1; omega
theorem sorted1_step (ps : List EvS) (n : Nat) (p : EvS) (h : ps[n]? = some p) : (sorted1 ps n).set n (sortRoles p) = sorted1 ps (n + 1) := by
  have hn : n < ps.length := (List.getElem?_eq_some_iff.1 h).1
  have hp : ps[n] = p := (List.getElem?_eq_some_iff.1 h).2
  unfold sorted1
  rw [List.set_append_right _ _ (by simp; omega)]
  have e : n - ((ps.take n).map sortRoles).length = 0 := by simp; omega
  rw [e, List.drop_eq_getElem_cons hn, List.set_cons_zero, List.take_succ_eq_append_getElem hn, hp]
  simp
theorem sorted1_zero (ps : List EvS) : sorted1 ps 0 = ps := by simp [sorted1]
theorem sorted1_all (ps : List EvS) : sorted1 ps ps.length = ps.map sortRoles := by simp [sorted1]
theorem sorted1_row (ps : List EvS) (n : Nat) : (sorted1 ps n).flatMap encE = ps.flatMap encE := by
  unfold sorted1
  rw [List.flatMap_append]
  have : ((ps.take n).map sortRoles).flatMap encE = (ps.take n).flatMap encE := by
    rw [List.flatMap_map]; rfl
  rw [this, ← List.flatMap_append, List.take_append_drop]
theorem ev_cells {w : World} {B g cap n : Nat} {ps : List EvS} (h : w.ownsRow B 144 5 (.slice (some ⟨g, 0, none⟩) n cap) n (ps.flatMap encE)) {k : Nat} {p : EvS} (hk : ps[k]? = some p) :
    w.cell? ⟨g, k * 5, none⟩ = some (strV p.1.name) ∧ w.cell? ⟨g, k * 5 + 1, none⟩ = some (slV p.2) ∧ w.cell? ⟨g, k * 5 + 2, none⟩ = some (.bool p.1.done) ∧ w.cell? ⟨g, k * 5 + 3, none⟩ = some (.bool p.1.inn) ∧ w.cell? ⟨g, k * 5 + 4, none⟩ = some (.bool p.1.due) :=
  ⟨own_cell h ((Dsr.flatM 5 encE (fun _ => rfl) ps k p 0 hk (by omega)).trans rfl), own_cell h ((Dsr.flatM 5 encE (fun _ => rfl) ps k p 1 hk (by omega)).trans rfl), own_cell h ((Dsr.flatM 5 encE (fun _ => rfl) ps k p 2 hk (by omega)).trans rfl), own_cell h ((Dsr.flatM 5 encE (fun _ => rfl) ps k p 3 hk (by omega)).trans rfl), own_cell h ((Dsr.flatM 5 encE (fun _ => rfl) ps k p 4 hk (by omega)).trans rfl)⟩
theorem GS.size {B G : Nat} {w : World} {ps : List EvS} {rs : List Dsr.Rl} {ve vr : Value} (h : GS B G w ps rs ve vr) : B ≤ w.heap.size := by have := h.lt; have := h.low; omega
/-- What a list in order is. -/
structure Ordered (ps : List EvS) (rs : List Dsr.Rl) (ps' : List EvS) (rs' : List Dsr.Rl) : Prop where
  pe : ps'.Perm ps
  se : ps'.Pairwise (fun a b => 0 ≤ cfE b a)
  pr : rs'.Perm rs
  sr : rs'.Pairwise (fun a b => 0 ≤ cmpRl b a)
set_option maxRecDepth 100000 in
set_option maxHeartbeats 3200000 in
theorem putInOrder_any {B G : Nat} {w : World} {ps : List EvS} {rs : List Dsr.Rl} {ve vr : Value} (h : GS B G w ps rs ve vr) (hp : ps.length ≤ 1000) (hr : rs.length ≤ 1000) (hro : ∀ p ∈ ps, p.1.roles.length ≤ 1000) :
    Calls Tryz.prog 66 #[ptr G] w fun x w' => x = .returned (.tuple #[]) ∧ ∃ ps' rs' vr', Ordered ps rs ps' rs' ∧ GS B G w' (ps'.map sortRoles) (Dsr.compact eqRl rs') ve vr' ∧ Below B w w' := by
  obtain ⟨c0, c1, fz⟩ := cells2 h.blk
  have H : Hid (GS B G w ps rs ve vr) := h
  clear h
  go_enter Tryz.func66, Tryz.ntmps66
  go_wp2_with fail
  refine (sortEvents_any ps H.out.evs (by omega)).mono ?_
  rintro x w1 ⟨rfl, ps', hpe, hse, ho, hg⟩
  have G1 := H.out.putE hpe ho hg
  have b1 : Below B w w1 := (Below.refl _ _).grown hg H.out.size (fun k hk => (H.out.evs.lt k hk).1)
  have hl' : ps'.length = ps.length := hpe.length_eq
  have hpz : (ps'.length : Int) ≤ 1000 := by omega
  have hro' : ∀ p ∈ ps', p.1.roles.length ≤ 1000 := fun p hp => hro p (hpe.mem_iff.1 hp)
  obtain ⟨ae, ce, hve⟩ := owned_shape G1.evs
  subst hve
  clear c0 c1 fz
  obtain ⟨c0, c1, fz⟩ := cells2 G1.blk
  have H1 : Hid (GS B G w1 ps' rs (.slice ae ps'.length ce) vr ∧ Below B w w1 ∧ ps'.Perm ps ∧ ps'.Pairwise (fun a b => 0 ≤ cfE b a) ∧ (∀ p ∈ ps', p.1.roles.length ≤ 1000)) := ⟨G1, b1, hpe, hse.imp (fun h => by omega), hro'⟩
  clear G1 b1 hpe hse ho hg hro hro'
  go_wp2_with fail
  go_loopg [14] ps'.length (fun k i wr => ∃ n : Nat, i = .int .i64 n ∧ n + k = ps'.length ∧ GS B G wr (sorted1 ps' n) rs (.slice ae ps'.length ce) vr ∧ Below B w1 wr)
  case atStart => exact ⟨0, rfl, by omega, by rw [sorted1_zero]; exact H1.out.1, Below.refl _ _⟩
  case round =>
    obtain ⟨n, rfl, hn, hG, hB⟩ := hrel
    by_cases hlt : n < ps'.length
    · obtain ⟨p, hpn⟩ : ∃ p, ps'[n]? = some p := ⟨_, List.getElem?_eq_getElem hlt⟩
      have hev := hG.evs
      rw [sorted1_row, sorted1_len] at hev
      obtain ⟨ge, ce', hge, _, _⟩ := hev.form (by omega)
      injection hge with hge1 hge2 hge3
      subst hge1
      subst hge3
      obtain ⟨d0, d1, d2, d3, d4⟩ := ev_cells hev hpn
      have hpm : p ∈ ps' := List.mem_of_getElem? hpn
      have hat : (sorted1 ps' n)[n]? = some p := (sorted1_at ps' n hlt).trans hpn
      have hrow := hG.rol p (List.mem_of_getElem? hat)
      have HH : Hid (GS B G wr (sorted1 ps' n) rs (.slice (some ⟨ge, 0, none⟩) ps'.length ce) vr ∧ Below B w1 wr ∧ ps'[n]? = some p ∧ (sorted1 ps' n)[n]? = some p ∧ wr.ownsRow B 9 1 (slV p.2) p.1.roles.length (p.1.roles.map strV) ∧ p.1.roles.length ≤ 1000) := ⟨hG, hB, hpn, hat, hrow, H1.out.2.2.2.2 p hpm⟩
      have hslv : slV p.2 = .slice p.2.1 p.2.2.1 p.2.2.2 := rfl
      rw [hslv] at d1
      clear hG hB hpn hat hrow hev hpm hslv
      go_wp2_with fail
      refine (sortStrings_any p.1.roles (HH.out.2.2.2.2.1.alloc _) (by have := HH.out.2.2.2.2.2; omega)).mono ?_
      rintro x w2 ⟨rfl, ho2, hg2⟩
      have hS2 := HH.out.1.size
      have A1 : GS B G (wr.alloc (.cells #[strV p.1.name, slV p.2, .bool p.1.done, .bool p.1.inn, .bool p.1.due] 144)) (sorted1 ps' n) rs (.slice (some ⟨ge, 0, none⟩) ps'.length ce) vr := HH.out.1.below ((Below.refl _ _).alloc (Nat.le_refl _) _)
      have G2 := A1.putS HH.out.2.2.2.1 ho2 hg2
      rw [sorted1_step ps' n p HH.out.2.2.1] at G2
      have b2 : Below B w1 w2 := (HH.out.2.1.alloc hS2 _).grown hg2 (by simp; omega) (fun k hk => (HH.out.2.2.2.2.1.lt k hk).1)
      have H2 : Hid (GS B G w2 (sorted1 ps' (n + 1)) rs (.slice (some ⟨ge, 0, none⟩) ps'.length ce) vr ∧ Below B w1 w2) := ⟨G2, b2⟩
      clear ho2 hg2 A1 G2 b2
      go_wp2_with fail
      go_roundg (ps'.length - (n + 1))
      case measure => omega
      case rel => exact ⟨n + 1, by go_num, by omega, H2.out.1, H2.out.2⟩
    · have hn' : n = ps'.length := by omega
      subst hn'
      rw [sorted1_all] at hG
      obtain ⟨e0, e1, fe⟩ := cells2 hG.blk
      have H2 : Hid (GS B G wr (ps'.map sortRoles) rs (.slice ae ps'.length ce) vr ∧ Below B w wr) := ⟨hG, H1.out.2.1.trans hB⟩
      clear hG hB hlt c0 c1 fz
      go_wp2_with fail
      refine (sortRules_any rs H2.out.1.rls (by omega)).mono ?_
      rintro x w3 ⟨rfl, rs', hpr, hsr, ho3, hg3⟩
      have G3 := H2.out.1.putR ho3 hg3
      have b3 : Below B w w3 := H2.out.2.grown hg3 H2.out.1.size (fun k hk => (H2.out.1.rls.lt k hk).1)
      clear e0 e1 fe
      obtain ⟨e0, e1, fe⟩ := cells2 G3.blk
      have H3 : Hid (GS B G w3 (ps'.map sortRoles) rs' (.slice ae ps'.length ce) vr ∧ Below B w w3 ∧ rs'.Perm rs ∧ rs'.Pairwise (fun a b => 0 ≤ cmpRl b a)) := ⟨G3, b3, hpr, hsr.imp (fun h => by omega)⟩
      have hl3 : rs'.length = rs.length := hpr.length_eq
      clear G3 b3 hpr hsr ho3 hg3
      go_wp2_with fail
      refine (compact_any rs' H3.out.1.rls (by omega)).mono ?_
      rintro x w4 ⟨v', rfl, ho4, hg4, hb4⟩
      obtain ⟨a4, c4, hv4⟩ := owned_shape ho4
      subst hv4
      have hap := H3.out.1.apart
      simp only [List.pairwise_cons, List.forall_mem_cons] at hap
      have hGne : some G ≠ vr.ownBlock := fun e => differ_ne hap.1.2.1 rfl e.symm
      have q4 : w4.heap[G]? = some (.cells #[.slice ae ps'.length ce, vr] 91 (0, 0)) := by rw [hg4.block G H3.out.1.lt hGne]; exact H3.out.1.blk
      obtain ⟨g0, g1, fg⟩ := cells2 q4
      have b4 : Below B w w4 := H3.out.2.1.grown hg4 H3.out.1.size (fun k hk => (H3.out.1.rls.lt k hk).1)
      have H4 : Hid (GS B G (w4.setCell ⟨G, 1, none⟩ (.slice a4 (Dsr.compact eqRl rs').length c4)) (ps'.map sortRoles) (Dsr.compact eqRl rs') (.slice ae ps'.length ce) (.slice a4 (Dsr.compact eqRl rs').length c4) ∧ Below B w (w4.setCell ⟨G, 1, none⟩ (.slice a4 (Dsr.compact eqRl rs').length c4))) := by
        refine ⟨?_, b4.setCell H3.out.1.low _⟩
        have hl4 := H3.out.1.lt
        have keep : ∀ k, k < w3.heap.size → some k ≠ vr.ownBlock → k ≠ G → (w4.setCell ⟨G, 1, none⟩ (.slice a4 (Dsr.compact eqRl rs').length c4)).heap[k]? = w3.heap[k]? := fun k hk h1 h2 => (heap_setCell_other _ _ _ _ h2).trans (hg4.block k hk h1)
        refine ⟨H3.out.1.low, ?_, ?_, ?_, ?_, ?_⟩
        · rw [blk_set q4]; simp
        · exact ownsRow_of_block H3.out.1.evs fun k hk hv => keep k hk (fun e => differ_ne hap.2.1.1 hv e.symm) (fun e => differ_ne hap.1.1 rfl (by rw [hv, e]))
        · exact ownsRow_of_block ho4 fun k hk hv => heap_setCell_other _ _ _ _ (fun e => hGne (by rw [← hb4, hv]; exact congrArg some (show G = k from e.symm)))
        · intro p hpm
          have hm : (slV p.2).ownBlock ∈ (ps'.map sortRoles).map (fun p => (slV p.2).ownBlock) := List.mem_map.2 ⟨p, hpm, rfl⟩
          exact ownsRow_of_block (H3.out.1.rol p hpm) fun k hk hv => keep k hk (fun e => differ_ne (hap.2.2.1 _ hm) e.symm hv) (fun e => differ_ne (hap.1.2.2 _ hm) rfl (by rw [hv, e]))
        · simp only [List.pairwise_cons, List.forall_mem_cons, hb4]
          exact hap
      clear ho4 hg4 hap q4 b4
      go_wp2_with fail
      go_end0
      exact ⟨rfl, ps', rs', _, ⟨H1.out.2.2.1, H1.out.2.2.2.1, H3.out.2.2.1, H3.out.2.2.2⟩, H4.out.1, H4.out.2⟩
end Go.Proofs.YtjmcokcdaddpcaaGreatDoor
