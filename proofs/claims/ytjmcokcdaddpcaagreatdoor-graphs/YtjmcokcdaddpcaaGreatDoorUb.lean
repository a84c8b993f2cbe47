import Derived.Test.YtjmcokcdaddpcaaGreatDoorUa
import Derived.Deep.CutRange
set_option linter.unusedVariables false
set_option linter.unusedSimpArgs false
namespace Go.Proofs.YtjmcokcdaddpcaaGreatDoor
open Go.RowKit
abbrev ptrL (b : Nat) : Value := .pointer (some ⟨b, 0, none⟩)
theorem Tryz.infoRUse : (Tryz.prog.info? 271).map (fun i => (i.zero, i.size, i.bytes)) = some (some (.agg #[.string ⟨#[]⟩, .int .i64 0, .bool false, .int .i64 0, .int .i64 0, .int .i64 0]), 6, 56) := by kernel_rfl
theorem Tryz.infoREv : (Tryz.prog.info? 226).map (fun i => (i.zero, i.size, i.bytes)) = some (some (.agg #[.string ⟨#[]⟩, .slice none 0 0, .bool false, .bool false, .bool false]), 5, 48) := by kernel_rfl
theorem Tryz.infoRRl : (Tryz.prog.info? 269).map (fun i => (i.zero, i.size, i.bytes)) = some (some (.agg #[.int .i64 0, .string ⟨#[]⟩, .string ⟨#[]⟩]), 3, 40) := by kernel_rfl
theorem Tryz.infoStr : (Tryz.prog.info? 9).map (fun i => (i.zero, i.size, i.bytes)) = some (some (.string ⟨#[]⟩), 1, 16) := by kernel_rfl
theorem one_ru (u : RU) : ∀ x ∈ ruC u, x.oneCell' = true := by intro x hx; simp [ruC, tkC] at hx; rcases hx with rfl | rfl | rfl | rfl | rfl | rfl <;> rfl
theorem one_rr (u : RR) : ∀ x ∈ rrC u, x.oneCell' = true := by intro x hx; simp [rrC] at hx; rcases hx with rfl | rfl | rfl <;> rfl
theorem risName_at (k : Dsr.Tok) (b : Bool) (hb : isName k = b) (w : World) : Calls Tryz.prog 220 #[tkV k] w fun e w' => e = .returned (.bool b) ∧ Below w.heap.size w w' := by
  subst hb
  exact risName_any k w
theorem LkAt.cells {B b : Nat} {w : World} {l : LK} {s : LS} (h : LkAt B b w l s) :
    w.cell? ⟨b, 0, none⟩ = some (.int .i64 l.want) ∧ w.cell? ⟨b, 1, none⟩ = some (.int .i64 l.lines) ∧ w.cell? ⟨b, 2, none⟩ = some (.int .i64 l.roles) ∧ w.cell? ⟨b, 3, none⟩ = some (.int .i64 l.e) ∧ w.cell? ⟨b, 4, none⟩ = some s.ve ∧
    w.cell? ⟨b, 5, none⟩ = some s.vr ∧ w.cell? ⟨b, 6, none⟩ = some s.vu ∧ w.cell? ⟨b, 7, none⟩ = some (.int .i64 l.event) ∧ w.cell? ⟨b, 8, none⟩ = some (.int .i64 l.rule) ∧ (∀ o, w.frozen? ⟨b, o, none⟩ = false) := by
  have hb := h.blk
  refine ⟨?_, ?_, ?_, ?_, ?_, ?_, ?_, ?_, ?_, ?_⟩
  all_goals first
    | (intro o; simp [World.frozen?, hb])
    | simp [World.cell?, hb]
theorem grownD {w w' : World} {row : Option Nat} (h : w.drew.grownBy w' row) : w.grownBy w' row := ⟨h.os, h.tape, h.output, h.size, h.block⟩
theorem below_alloc1 {w : World} (o : Obj) : Below w.heap.size w (w.alloc o) := (Below.refl _ _).alloc (Nat.le_refl _) _
theorem after_use {B b : Nat} {wc w1 : World} {l : LK} {s : LS} {u : RU} {o : Obj} {g cap : Nat} (HR : LkAt B b wc l s)
    (hown : w1.ownsRow B 271 6 (.slice (some ⟨g, 0, none⟩) (l.uses.length + 1) cap) (l.uses.length + 1) (l.uses.flatMap ruC ++ ruC u)) (hgrow : (wc.alloc o).grownBy w1 s.vu.ownBlock) (hat : s.vu.ownBlock = some g ∨ g = (wc.alloc o).heap.size) :
    Hid (LNext B b wc l s (w1.setCell ⟨b, 6, none⟩ (.slice (some ⟨g, 0, none⟩) (l.uses.length + 1) cap)) { l with uses := l.uses ++ [u] } { s with vu := .slice (some ⟨g, 0, none⟩) (l.uses.length + 1) cap }) ∧ w1.cell? ⟨b, 6, none⟩ = some s.vu ∧ w1.frozen? ⟨b, 6, none⟩ = false := by
  have HA := (LNext.refl HR).aside (below_alloc1 o)
  have hc := HA.lk.cells
  have hne : some b ≠ s.vu.ownBlock := fun e => (HA.lk.rowMine (r := ⟨s.vu, 271, 6, l.uses.length, l.uses.flatMap ruC⟩) (by simp [lkRows]) b e.symm).2 rfl
  refine ⟨HA.trans (HA.lk.useAdd u hown hgrow hat), ?_, ?_⟩
  · rw [hgrow.cell_far ⟨b, 6, none⟩ HA.lk.lt hne]; exact hc.2.2.2.2.2.2.1
  · rw [hgrow.frozen_far ⟨b, 6, none⟩ HA.lk.lt hne]; exact hc.2.2.2.2.2.2.2.2.2 6
set_option maxRecDepth 100000 in
set_option maxHeartbeats 6400000 in
theorem rnamed_any {B b : Nat} {w : World} {l : LK} {s : LS} (k : Dsr.Tok) (room : Bool) (what want : Nat) (h : LkAt B b w l s) (hu : l.uses.length ≤ 1000) (hk : k.text.length ≤ 1000) :
    Calls Tryz.prog 163 #[ptrL b, tkV k, .bool room, .int .i64 what, .int .i64 want] w fun e w' => e = .returned (.tuple #[]) ∧ ∃ s', LNext B b w l s w' (namedP l k room what want) s' ∧ s'.ve = s.ve ∧ s'.vr = s.vr ∧ s'.rv = s.rv := by
  have hlt := h.lt
  have hkI : (k.text.length : Int) ≤ 1000 := by omega
  have H : Hid (LkAt B b w l s) := h
  have hB : B ≤ w.heap.size := by have := h.low; omega
  clear h
  have A0 : LNext B b w l s (w.alloc (.cells #[strV k.text, .int .i64 k.at_, .bool (isW k), .int .i64 (sgn k)] 223)) l s := (LNext.refl H.out).aside ((Below.refl _ _).alloc (Nat.le_refl _) _)
  have HA : Hid (LNext B b w l s (w.alloc (.cells #[strV k.text, .int .i64 k.at_, .bool (isW k), .int .i64 (sgn k)] 223)) l s) := A0
  rcases hn : isName k with _ | _
  · have HE : Hid (namedP l k room what want = { l with e := 2 }) := by show _ = _; unfold namedP; rw [if_pos hn]
    go_enter Tryz.func163, Tryz.ntmps163
    go_wp2_with fail
    refine (risName_at k false hn _).mono ?_
    rintro e w1 ⟨rfl, b1⟩
    have H1 : Hid (LNext B b w l s w1 l s) := HA.out.aside b1
    obtain ⟨c0, c1, c2, c3, c4, c5, c6, c7, c8, fz⟩ := H1.out.lk.cells
    clear b1
    go_wp2_with fail
    go_end0
    refine ⟨rfl, s, ?_, rfl, rfl, rfl⟩
    rw [HE.out]
    exact H1.out.put 3 _ rfl rfl rfl rfl
  · rcases hb : badSize k room with _ | _
    · have HE : Hid (namedP l k room what want = { l with uses := l.uses ++ [⟨k, what, l.lines⟩], want := want }) := by show _ = _; unfold namedP; rw [if_neg (by rw [hn]; decide), if_neg (by rw [hb]; decide)]
      have hroom : room = true := by unfold badSize at hb; cases room <;> simp_all
      have hsz : (k.text.length : Int) ≤ 8 := by unfold badSize at hb; cases room <;> simp_all; omega
      subst hroom
      go_enter Tryz.func163, Tryz.ntmps163
      go_wp2_with fail
      refine (risName_at k true hn _).mono ?_
      rintro e w1 ⟨rfl, b1⟩
      have H1 : Hid (LNext B b w l s w1 l s) := HA.out.aside b1
      obtain ⟨c0, c1, c2, c3, c4, c5, c6, c7, c8, fz⟩ := H1.out.lk.cells
      have hw1 : w.heap.size < w1.heap.size := by have := b1.size; simp at this; omega
      have q1 : w1.heap[w.heap.size]? = some (.cells #[strV k.text, .int .i64 k.at_, .bool (isW k), .int .i64 (sgn k)] 223 (0, 0)) := (b1.block _ (by simp)).trans (heap_alloc_new _ _)
      have t0 : w1.cell? ⟨w.heap.size, 0, none⟩ = some (strV k.text) := by simp [World.cell?, q1]
      have t1 : w1.cell? ⟨w.heap.size, 1, none⟩ = some (.int .i64 k.at_) := by simp [World.cell?, q1]
      have t2 : w1.cell? ⟨w.heap.size, 2, none⟩ = some (.bool (isW k)) := by simp [World.cell?, q1]
      have t3 : w1.cell? ⟨w.heap.size, 3, none⟩ = some (.int .i64 (sgn k)) := by simp [World.cell?, q1]
      have HU : Hid (w1.ownsRow B 271 6 s.vu l.uses.length (l.uses.flatMap ruC)) := H1.out.lk.own2
      obtain ⟨i0, hi, hz0, hz1, hz2⟩ := info_parts Tryz.infoRUse
      have hw1' : B ≤ w1.heap.size := by omega
      have hbw1 := H1.out.lk.lt
      clear b1 q1 A0 c0 c2 c3 c4 c5 c7 c8 hsz hkI hk
      have hdec : decide ((8 : Int) < (k.text.length : Int)) = false := by unfold badSize at hb; simp at hb ⊢; omega
      go_wp2_with fail
      go_cut [] from 11 (fun wd => ∃ s', LNext B b w1 l s wd { l with uses := l.uses ++ [⟨k, what, l.lines⟩] } s' ∧ s'.ve = s.ve ∧ s'.vr = s.vr ∧ s'.rv = s.rv)
      case first =>
        go_region_law (refine step_append_lies _ rfl (.tmp 18) (.tmp 26) 217 rfl B 271 i0 _ 6 56 Tryz.underlying217 hi hz0 hz1 hz2 rfl (by decide) s.vu l.uses.length _ (by simp [Act.eval, Act.put]) (by first | exact HU.out.alloc _ | exact (HU.out.alloc _).drew) ⟨w1.heap.size, 0, none⟩ 1 1 (ruC ⟨k, what, l.lines⟩) (by simp [Act.eval, Act.put]) rfl (by exact news_l rfl) (one_ru _) (by decide) (by unfold maxLen; omega) (by omega) (by simp; omega) _ rfl ?_; intro g cap w2 hown hgrow hat hlt1; obtain ⟨HM, e7, f7⟩ := after_use H1.out.lk hown (grownD hgrow) hat)
        all_goals
          go_wp2_with fail
          go_meet
          case rel => exact ⟨_, HM.out, rfl, rfl, rfl⟩
      case rest =>
        obtain ⟨s', N2, q1, q2, q3⟩ := hcut
        obtain ⟨c0, c1, c2, c3, c4, c5, c6, c7, c8, fz⟩ := N2.lk.cells
        have HN : Hid (LNext B b w1 l s wc { l with uses := l.uses ++ [⟨k, what, l.lines⟩] } s' ∧ s'.ve = s.ve ∧ s'.vr = s.vr ∧ s'.rv = s.rv) := ⟨N2, q1, q2, q3⟩
        clear N2 q1 q2 q3
        go_wp2_with fail
        go_end0
        refine ⟨rfl, s', ?_, HN.out.2⟩
        rw [HE.out]
        exact (H1.out.trans HN.out.1).put 0 _ rfl rfl rfl rfl
    · have HE : Hid (namedP l k room what want = { l with e := 3 }) := by show _ = _; unfold namedP; rw [if_neg (by rw [hn]; decide), if_pos hb]
      go_enter Tryz.func163, Tryz.ntmps163
      go_wp2_with fail
      refine (risName_at k true hn _).mono ?_
      rintro e w1 ⟨rfl, b1⟩
      have H1 : Hid (LNext B b w l s w1 l s) := HA.out.aside b1
      obtain ⟨c0, c1, c2, c3, c4, c5, c6, c7, c8, fz⟩ := H1.out.lk.cells
      have q1 : w1.heap[w.heap.size]? = some (.cells #[strV k.text, .int .i64 k.at_, .bool (isW k), .int .i64 (sgn k)] 223 (0, 0)) := (b1.block _ (by simp)).trans (heap_alloc_new _ _)
      have t0 : w1.cell? ⟨w.heap.size, 0, none⟩ = some (strV k.text) := by simp [World.cell?, q1]
      clear b1 q1
      rcases room with _ | _
      · go_wp2_with fail
        go_end0
        refine ⟨rfl, s, ?_, rfl, rfl, rfl⟩
        rw [HE.out]
        exact H1.out.put 3 _ rfl rfl rfl rfl
      · have hsz : (8 : Int) < (k.text.length : Int) := by unfold badSize at hb; simp at hb; omega
        go_wp2_with fail
        go_end0
        refine ⟨rfl, s, ?_, rfl, rfl, rfl⟩
        rw [HE.out]
        exact H1.out.put 3 _ rfl rfl rfl rfl
end Go.Proofs.YtjmcokcdaddpcaaGreatDoor
set_option linter.unusedVariables false
set_option linter.unusedSimpArgs false
namespace Go.Proofs.YtjmcokcdaddpcaaGreatDoor
open Go.RowKit
theorem own_at {w : World} {B : Nat} {e : TypeId} {m g c n : Nat} {xs : List Value} (h : w.ownsRow B e m (.slice (some ⟨g, 0, none⟩) n c) n xs) {j : Nat} {u : Value} (hu : xs[j]? = some u) : w.cell? ⟨g, j, none⟩ = some u := by
  have := h.cells (g := g) rfl j u hu
  simpa [Addr.add_lit] using this
theorem own_thaw {w : World} {B : Nat} {e : TypeId} {m g c n : Nat} {xs : List Value} (h : w.ownsRow B e m (.slice (some ⟨g, 0, none⟩) n c) n xs) (j : Nat) : w.frozen? ⟨g, j, none⟩ = false := by
  rcases h.2 with ⟨h1, _⟩ | ⟨g', cap, cur, h1, _, h2, _⟩
  · cases h1
  · injection h1 with h1
    injection h1 with h1
    injection h1 with h1
    subst h1
    simp [World.frozen?, h2]
theorem flatM2 {α β : Type} (m : Nat) (f : α → List β) (hf : ∀ a, (f a).length = m) : ∀ (us : List α) (k : Nat) (u : α) (j : Nat), us[k]? = some u → j < m → (us.flatMap f)[k * m + j]? = (f u)[j]?
  | [], k, u, j, h, _ => by simp at h
  | a :: us, 0, u, j, h, hj => by
    have e : a = u := by simpa using h
    subst e
    rw [List.flatMap_cons, Nat.zero_mul, Nat.zero_add, List.getElem?_append_left (by rw [hf]; exact hj)]
  | a :: us, k + 1, u, j, h, hj => by
    have h' : us[k]? = some u := by simpa using h
    have e1 : (k + 1) * m + j = m + (k * m + j) := by rw [Nat.succ_mul]; omega
    rw [List.flatMap_cons, e1, List.getElem?_append_right (by rw [hf]; omega), hf, Nat.add_sub_cancel_left]
    exact flatM2 m f hf us k u j h' hj
theorem evCells_at2 : ∀ (es : List Dsr.Ev) (rv : List Value) (k : Nat) (e : Dsr.Ev) (v : Value) (j : Nat), es[k]? = some e → rv[k]? = some v → j < 5 → (evCells es rv)[k * 5 + j]? = (evC e v)[j]?
  | [], _, k, e, v, j, h, _, _ => by simp at h
  | a :: es, [], k, e, v, j, _, h, _ => by simp at h
  | a :: es, b :: rv, 0, e, v, j, h, h', hj => by
    have e1 : a = e := by simpa using h
    have e2 : b = v := by simpa using h'
    subst e1 e2
    rw [evCells, Nat.zero_mul, Nat.zero_add, List.getElem?_append_left (by simpa [evC] using hj)]
  | a :: es, b :: rv, k + 1, e, v, j, h, h', hj => by
    have e1 : es[k]? = some e := by simpa using h
    have e2 : rv[k]? = some v := by simpa using h'
    have e3 : (k + 1) * 5 + j = 5 + (k * 5 + j) := by omega
    rw [evCells, e3, List.getElem?_append_right (by simp [evC])]
    have e4 : 5 + (k * 5 + j) - (evC a b).length = k * 5 + j := by simp [evC]
    rw [e4]
    exact evCells_at2 es rv k e v j e1 e2 hj
/-- The last event lies here. -/
theorem LkAt.lastEv {B b : Nat} {w : World} {l : LK} {s : LS} (h : LkAt B b w l s) (hn : 0 < l.events.length) : ∃ g c m x v, s.ve = .slice (some ⟨g, 0, none⟩) (m + 1) c ∧ l.events.length = m + 1 ∧ l.events[m]? = some x ∧ s.rv[m]? = some v ∧ g ≠ b ∧
    w.cell? ⟨g, m * 5, none⟩ = some (strV x.name) ∧ w.cell? ⟨g, m * 5 + 1, none⟩ = some v ∧ w.cell? ⟨g, m * 5 + 2, none⟩ = some (.bool x.done) ∧ w.cell? ⟨g, m * 5 + 3, none⟩ = some (.bool x.inn) ∧ w.cell? ⟨g, m * 5 + 4, none⟩ = some (.bool x.due) ∧ (∀ o, w.frozen? ⟨g, o, none⟩ = false) ∧ m + 1 ≤ c ∧ c ≤ maxLen := by
  obtain ⟨m, hm⟩ : ∃ m, l.events.length = m + 1 := ⟨l.events.length - 1, by omega⟩
  have ho := h.own0
  rcases ho.2 with ⟨_, h1⟩ | ⟨g, c, cur, h1, _, h2, h3, h4, _⟩
  · omega
  · obtain ⟨x, hx⟩ : ∃ x, l.events[m]? = some x := ⟨_, List.getElem?_eq_getElem (by omega)⟩
    obtain ⟨v, hv⟩ : ∃ v, s.rv[m]? = some v := ⟨_, List.getElem?_eq_getElem (by rw [h.len]; omega)⟩
    rw [h1] at ho
    have e := fun j hj => evCells_at2 l.events s.rv m x v j hx hv hj
    refine ⟨g, c, m, x, v, by rw [h1, hm], hm, hx, hv, ?_, ?_, ?_, ?_, ?_, ?_, ?_, by omega, h4⟩
    · exact fun e => h.rows.notFixed (r := ⟨s.ve, 226, 5, l.events.length, evCells l.events s.rv⟩) (by simp [lkRows]) (k := g) (by rw [h1]; rfl) (by simp [e])
    · exact own_at ho ((e 0 (by omega)).trans rfl)
    · exact own_at ho ((e 1 (by omega)).trans rfl)
    · exact own_at ho ((e 2 (by omega)).trans rfl)
    · exact own_at ho ((e 3 (by omega)).trans rfl)
    · exact own_at ho ((e 4 (by omega)).trans rfl)
    · exact fun o => own_thaw ho o
theorem LkAt.lastRu {B b : Nat} {w : World} {l : LK} {s : LS} (h : LkAt B b w l s) (hn : 0 < l.rules.length) : ∃ g c m x, s.vr = .slice (some ⟨g, 0, none⟩) (m + 1) c ∧ l.rules.length = m + 1 ∧ l.rules[m]? = some x ∧ g ≠ b ∧
    w.cell? ⟨g, m * 3, none⟩ = some (.int .i64 x.sign) ∧ w.cell? ⟨g, m * 3 + 1, none⟩ = some (strV x.left) ∧ w.cell? ⟨g, m * 3 + 2, none⟩ = some (strV x.right) ∧ (∀ o, w.frozen? ⟨g, o, none⟩ = false) ∧ m + 1 ≤ c ∧ c ≤ maxLen := by
  obtain ⟨m, hm⟩ : ∃ m, l.rules.length = m + 1 := ⟨l.rules.length - 1, by omega⟩
  have ho := h.own1
  rcases ho.2 with ⟨_, h1⟩ | ⟨g, c, cur, h1, _, h2, h3, h4, _⟩
  · omega
  · obtain ⟨x, hx⟩ : ∃ x, l.rules[m]? = some x := ⟨_, List.getElem?_eq_getElem (by omega)⟩
    rw [h1] at ho
    have e := fun j hj => flatM2 3 rrC (fun _ => rfl) l.rules m x j hx hj
    refine ⟨g, c, m, x, by rw [h1, hm], hm, hx, ?_, ?_, ?_, ?_, ?_, by omega, h4⟩
    · exact fun e => h.rows.notFixed (r := ⟨s.vr, 269, 3, l.rules.length, l.rules.flatMap rrC⟩) (by simp [lkRows]) (k := g) (by rw [h1]; rfl) (by simp [e])
    · exact own_at ho ((e 0 (by omega)).trans rfl)
    · exact own_at ho ((e 1 (by omega)).trans rfl)
    · exact own_at ho ((e 2 (by omega)).trans rfl)
    · exact fun o => own_thaw ho o
end Go.Proofs.YtjmcokcdaddpcaaGreatDoor
set_option linter.unusedVariables false
set_option linter.unusedSimpArgs false
namespace Go.Proofs.YtjmcokcdaddpcaaGreatDoor
open Go.RowKit
abbrev ptrM (b : Nat) : Value := .pointer (some ⟨b, 0, none⟩)
theorem LkAt.cellsM {B b : Nat} {w : World} {l : LK} {s : LS} (h : LkAt B b w l s) :
    w.cell? ⟨b, 0, none⟩ = some (.int .i64 l.want) ∧ w.cell? ⟨b, 3, none⟩ = some (.int .i64 l.e) ∧ w.cell? ⟨b, 4, none⟩ = some s.ve ∧ (∀ o, w.frozen? ⟨b, o, none⟩ = false) := by
  have hb := h.blk
  refine ⟨?_, ?_, ?_, ?_⟩
  all_goals first
    | (intro o; simp [World.frozen?, hb])
    | simp [World.cell?, hb]
set_option maxRecDepth 100000 in
set_option maxHeartbeats 3200000 in
theorem rmark_any {B b : Nat} {w : World} {l : LK} {s : LS} (k : Dsr.Tok) (h : LkAt B b w l s) (he : 0 < l.events.length) (hle : l.events.length ≤ 1000) (hw : l.want = 4 ∨ l.want = 5 ∨ l.want = 6) :
    Calls Tryz.prog 164 #[ptrM b, tkV k] w fun e w' => e = .returned (.tuple #[]) ∧ ∃ s', LNext B b w l s w' (markP l k) s' := by
  obtain ⟨kd, ru, at_, tx⟩ := k
  obtain ⟨wt, ln, rl, er, es, rs, us, ev, rq⟩ := l
  have A0 : LNext B b w ⟨wt, ln, rl, er, es, rs, us, ev, rq⟩ s (w.alloc (.cells #[strV tx, .int .i64 at_, .bool (isW ⟨kd, ru, at_, tx⟩), .int .i64 (sgn ⟨kd, ru, at_, tx⟩)] 223) ) ⟨wt, ln, rl, er, es, rs, us, ev, rq⟩ s := (LNext.refl h).aside ((Below.refl _ _).alloc (Nat.le_refl _) _)
  have HA : Hid (LNext B b w ⟨wt, ln, rl, er, es, rs, us, ev, rq⟩ s (w.alloc (.cells #[strV tx, .int .i64 at_, .bool (isW ⟨kd, ru, at_, tx⟩), .int .i64 (sgn ⟨kd, ru, at_, tx⟩)] 223) ) ⟨wt, ln, rl, er, es, rs, us, ev, rq⟩ s) := A0
  obtain ⟨g, c, m, x, v, hv, hm, hx, hvx, hgb, e0, e1, e2, e3, e4, ez, hmc, hc⟩ := h.lastEv he
  obtain ⟨c0, c3, c4, fz⟩ := h.cellsM
  rw [hv] at c4
  have hlt := h.lt
  have hglt : g < w.heap.size := World.block_lt_of_cell? _ _ e0
  have HM : Hid (s.ve = .slice (some ⟨g, 0, none⟩) (m + 1) c ∧ es.length = m + 1) := ⟨hv, hm⟩
  have hmI : (m : Int) ≤ 1000 := by omega
  have HP : ∃ p, Hid (markP ⟨wt, ln, rl, er, es, rs, us, ev, rq⟩ ⟨kd, ru, at_, tx⟩ = p) := ⟨_, rfl⟩
  obtain ⟨lp, HP⟩ := HP
  have hP := HP.out
  rw [HP.out]
  have hw : wt = 4 ∨ wt = 5 ∨ wt = 6 := hw
  clear h A0 hv hm hx hvx hle he HP
  have hind : ((m : Int) < (m : Int) + 1) := by omega
  go_enter Tryz.func164, Tryz.ntmps164
  go_wp2_with fail
  go_quiet (fail)
  have HB : Hid (LNext B b w ⟨wt, ln, rl, er, es, rs, us, ev, rq⟩ s ((w.alloc (.cells #[strV tx, .int .i64 at_, .bool (isW ⟨kd, ru, at_, tx⟩), .int .i64 (sgn ⟨kd, ru, at_, tx⟩)] 223)).drewN nq ) ⟨wt, ln, rl, er, es, rs, us, ev, rq⟩ s) := HA.out.aside ⟨rfl, rfl, rfl, Nat.le_refl _, fun _ _ => rfl⟩
  clear HA
  by_cases t1 : tx = [44]
  · subst t1
    rcases hw with rfl | rfl | rfl
    · simp [markP] at hP
      subst hP
      go_wp2_with fail
      go_end0
      refine ⟨rfl, s, ?_⟩
      exact HB.out.put 0 _ rfl rfl rfl rfl
    · simp [markP] at hP
      subst hP
      go_wp2_with fail
      go_end0
      refine ⟨rfl, s, ?_⟩
      exact HB.out.put 3 _ rfl rfl rfl rfl
    · simp [markP] at hP
      subst hP
      go_wp2_with fail
      go_end0
      refine ⟨rfl, s, ?_⟩
      exact HB.out.put 3 _ rfl rfl rfl rfl
  by_cases t2 : tx = [111, 117, 116]
  · subst t2
    rcases hw with rfl | rfl | rfl
    · simp [markP] at hP
      subst hP
      go_wp2_with fail
      go_end0
      refine ⟨rfl, s, ?_⟩
      exact (HB.out.trans (HB.out.lk.eventMod HM.out.1 HM.out.2 (fun x => { x with inn := false }) 3 _ (by decide) (fun _ _ => rfl) (fun _ => rfl))).put 0 _ rfl rfl rfl rfl
    · simp [markP] at hP
      subst hP
      go_wp2_with fail
      go_end0
      refine ⟨rfl, s, ?_⟩
      exact HB.out.put 3 _ rfl rfl rfl rfl
    · simp [markP] at hP
      subst hP
      go_wp2_with fail
      go_end0
      refine ⟨rfl, s, ?_⟩
      exact HB.out.put 3 _ rfl rfl rfl rfl
  by_cases t3 : tx = [100, 117, 101]
  · subst t3
    rcases hw with rfl | rfl | rfl
    · simp [markP] at hP
      subst hP
      go_wp2_with fail
      go_end0
      refine ⟨rfl, s, ?_⟩
      exact (HB.out.trans (HB.out.lk.eventMod HM.out.1 HM.out.2 (fun x => { x with due := true }) 4 _ (by decide) (fun _ _ => rfl) (fun _ => rfl))).put 0 _ rfl rfl rfl rfl
    · simp [markP] at hP
      subst hP
      go_wp2_with fail
      go_end0
      refine ⟨rfl, s, ?_⟩
      exact (HB.out.trans (HB.out.lk.eventMod HM.out.1 HM.out.2 (fun x => { x with due := true }) 4 _ (by decide) (fun _ _ => rfl) (fun _ => rfl))).put 0 _ rfl rfl rfl rfl
    · simp [markP] at hP
      subst hP
      go_wp2_with fail
      go_end0
      refine ⟨rfl, s, ?_⟩
      exact HB.out.put 3 _ rfl rfl rfl rfl
  by_cases t4 : tx = [100, 111, 110, 101]
  · subst t4
    rcases hw with rfl | rfl | rfl
    · simp [markP] at hP
      subst hP
      go_wp2_with fail
      go_end0
      refine ⟨rfl, s, ?_⟩
      exact (HB.out.trans (HB.out.lk.eventMod HM.out.1 HM.out.2 (fun x => { x with done := true }) 2 _ (by decide) (fun _ _ => rfl) (fun _ => rfl))).put 0 _ rfl rfl rfl rfl
    · simp [markP] at hP
      subst hP
      go_wp2_with fail
      go_end0
      refine ⟨rfl, s, ?_⟩
      exact (HB.out.trans (HB.out.lk.eventMod HM.out.1 HM.out.2 (fun x => { x with done := true }) 2 _ (by decide) (fun _ _ => rfl) (fun _ => rfl))).put 0 _ rfl rfl rfl rfl
    · simp [markP] at hP
      subst hP
      go_wp2_with fail
      go_end0
      refine ⟨rfl, s, ?_⟩
      exact (HB.out.trans (HB.out.lk.eventMod HM.out.1 HM.out.2 (fun x => { x with done := true }) 2 _ (by decide) (fun _ _ => rfl) (fun _ => rfl))).put 0 _ rfl rfl rfl rfl
  by_cases t5 : tx = [59]
  · subst t5
    rcases hw with rfl | rfl | rfl
    · simp [markP] at hP
      subst hP
      go_wp2_with fail
      go_end0
      refine ⟨rfl, s, ?_⟩
      exact HB.out.put 0 _ rfl rfl rfl rfl
    · simp [markP] at hP
      subst hP
      go_wp2_with fail
      go_end0
      refine ⟨rfl, s, ?_⟩
      exact HB.out.put 0 _ rfl rfl rfl rfl
    · simp [markP] at hP
      subst hP
      go_wp2_with fail
      go_end0
      refine ⟨rfl, s, ?_⟩
      exact HB.out.put 0 _ rfl rfl rfl rfl
  have b1 : (tx == [44]) = false := beq_eq_false_iff_ne.2 t1
  have b2 : (tx == [111, 117, 116]) = false := beq_eq_false_iff_ne.2 t2
  have b3 : (tx == [100, 117, 101]) = false := beq_eq_false_iff_ne.2 t3
  have b4 : (tx == [100, 111, 110, 101]) = false := beq_eq_false_iff_ne.2 t4
  have b5 : (tx == [59]) = false := beq_eq_false_iff_ne.2 t5
  rcases hw with rfl | rfl | rfl
  · simp [markP, t1, t2, t3, t4, t5] at hP
    subst hP
    clear t1 t2 t3 t4 t5
    go_wp2_with fail
    go_end0
    refine ⟨rfl, s, ?_⟩
    exact HB.out.put 3 _ rfl rfl rfl rfl
  · simp [markP, t1, t2, t3, t4, t5] at hP
    subst hP
    clear t1 t2 t3 t4 t5
    go_wp2_with fail
    go_end0
    refine ⟨rfl, s, ?_⟩
    exact HB.out.put 3 _ rfl rfl rfl rfl
  · simp [markP, t1, t2, t3, t4, t5] at hP
    subst hP
    clear t1 t2 t3 t4 t5
    go_wp2_with fail
    go_end0
    refine ⟨rfl, s, ?_⟩
    exact HB.out.put 3 _ rfl rfl rfl rfl
end Go.Proofs.YtjmcokcdaddpcaaGreatDoor
set_option linter.unusedVariables false
set_option linter.unusedSimpArgs false
namespace Go.Proofs.YtjmcokcdaddpcaaGreatDoor
open Go.RowKit
theorem after_rrule {B b : Nat} {wc w1 : World} {l : LK} {s : LS} {u : RR} {o : Obj} {g cap : Nat} (HR : LkAt B b wc l s)
    (hown : w1.ownsRow B 269 3 (.slice (some ⟨g, 0, none⟩) (l.rules.length + 1) cap) (l.rules.length + 1) (l.rules.flatMap rrC ++ rrC u)) (hgrow : (wc.alloc o).grownBy w1 s.vr.ownBlock) (hat : s.vr.ownBlock = some g ∨ g = (wc.alloc o).heap.size) :
    Hid (LNext B b wc l s (w1.setCell ⟨b, 5, none⟩ (.slice (some ⟨g, 0, none⟩) (l.rules.length + 1) cap)) { l with rules := l.rules ++ [u] } { s with vr := .slice (some ⟨g, 0, none⟩) (l.rules.length + 1) cap }) ∧ w1.cell? ⟨b, 5, none⟩ = some s.vr ∧ w1.frozen? ⟨b, 5, none⟩ = false := by
  have HA := (LNext.refl HR).aside (below_alloc1 o)
  have hc := HA.lk.cells
  have hne : some b ≠ s.vr.ownBlock := fun e => (HA.lk.rowMine (r := ⟨s.vr, 269, 3, l.rules.length, l.rules.flatMap rrC⟩) (by simp [lkRows]) b e.symm).2 rfl
  refine ⟨HA.trans (HA.lk.ruleAdd u hown hgrow hat), ?_, ?_⟩
  · rw [hgrow.cell_far ⟨b, 5, none⟩ HA.lk.lt hne]; exact hc.2.2.2.2.2.1
  · rw [hgrow.frozen_far ⟨b, 5, none⟩ HA.lk.lt hne]; exact hc.2.2.2.2.2.2.2.2.2 5
theorem far_tok {B b : Nat} {w w0 w3 : World} {l l2 : LK} {s : LS} {cs : Array Value} {T : TypeId} {c : Value} (h : LkAt B b w l s) (hs : w0.heap.size = w.heap.size) (hl : lkRows l2 s = lkRows l s) (hk : Kp (LMine b l2 s) (w0.alloc (.cells cs T)).drew w3) (hc : cs[0]? = some c) : w3.cell? ⟨w.heap.size, 0, none⟩ = some c := by
  have hb := hk.block w.heap.size (by simp [hs]) (fun hm => by
    unfold LMine at hm
    rw [hl] at hm
    have := (h.rows.lt hm).2
    omega)
  have hn := heap_alloc_new w0 (.cells cs T)
  rw [hs] at hn
  have hb : w3.heap[w.heap.size]? = some (.cells cs T (0, 0)) := hb.trans hn
  simp [World.cell?, hb, hc]
set_option maxRecDepth 100000 in
set_option maxHeartbeats 6400000 in
theorem rbegin_any {B b : Nat} {w : World} {l : LK} {s : LS} (k : Dsr.Tok) (h : LkAt B b w l s) (hu : l.uses.length ≤ 1000) (hk : k.text.length ≤ 1000) (hr : l.rules.length ≤ 1000) (hln : l.lines ≤ 1000) (hev : l.event ≤ 1000) (hru : l.rule ≤ 1000) :
    Calls Tryz.prog 162 #[ptrL b, tkV k] w fun e w' => e = .returned (.tuple #[]) ∧ ∃ s', LNext B b w l s w' (beginP l k) s' := by
  obtain ⟨kd, ru, at_, tx⟩ := k
  have A0 : LNext B b w l s (w.alloc (.cells #[strV tx, .int .i64 at_, .bool (isW ⟨kd, ru, at_, tx⟩), .int .i64 (sgn ⟨kd, ru, at_, tx⟩)] 223)) l s := (LNext.refl h).aside ((Below.refl _ _).alloc (Nat.le_refl _) _)
  have HA : Hid (LNext B b w l s (w.alloc (.cells #[strV tx, .int .i64 at_, .bool (isW ⟨kd, ru, at_, tx⟩), .int .i64 (sgn ⟨kd, ru, at_, tx⟩)] 223)) l s) := A0
  have hlt := h.lt
  obtain ⟨c0, c1, c2, c3, c4, c5, c6, c7, c8, fz⟩ := h.cells
  have hlI : (l.lines : Int) ≤ 1000 := by omega
  have heI : (l.event : Int) ≤ 1000 := by omega
  have hrI : (l.rule : Int) ≤ 1000 := by omega
  have H : Hid (LkAt B b w l s) := h
  have hB : B ≤ w.heap.size := by have := h.low; omega
  clear h A0 HA
  rcases hE : isEvent ⟨kd, ru, at_, tx⟩ with _ | _
  · have HP : Hid (beginP l ⟨kd, ru, at_, tx⟩ = { namedP { l with lines := l.lines + 1, rule := l.rule + 1 } ⟨kd, ru, at_, tx⟩ (decide (l.rule + 1 ≤ 20)) 3 8 with rules := l.rules ++ [⟨0, tx, []⟩] }) := by show _ = _; unfold beginP; rw [if_neg (by rw [hE]; decide)]
    have hrd : decide ((l.rule : Int) + 1 ≤ 20) = decide (l.rule + 1 ≤ 20) := by rw [Bool.eq_iff_iff]; simp; omega
    have HRD : Hid (decide ((l.rule : Int) + 1 ≤ 20) = decide (l.rule + 1 ≤ 20)) := hrd
    clear hrd
    have N2 : LNext B b w l s (((w.setCell ⟨b, 1, none⟩ (.int .i64 (l.lines + 1))).setCell ⟨b, 8, none⟩ (.int .i64 (l.rule + 1))).alloc (.cells #[strV tx, .int .i64 at_, .bool (isW ⟨kd, ru, at_, tx⟩), .int .i64 (sgn ⟨kd, ru, at_, tx⟩)] 223)).drew { l with lines := l.lines + 1, rule := l.rule + 1 } s :=
      (((LNext.refl H.out).put (l2 := { l with lines := l.lines + 1 }) 1 _ rfl rfl rfl rfl).put (l2 := { l with lines := l.lines + 1, rule := l.rule + 1 }) 8 _ rfl rfl rfl rfl).aside (((Below.refl _ _).alloc (Nat.le_refl _) _).drew)
    have HN2 : Hid (LNext B b w l s (((w.setCell ⟨b, 1, none⟩ (.int .i64 (l.lines + 1))).setCell ⟨b, 8, none⟩ (.int .i64 (l.rule + 1))).alloc (.cells #[strV tx, .int .i64 at_, .bool (isW ⟨kd, ru, at_, tx⟩), .int .i64 (sgn ⟨kd, ru, at_, tx⟩)] 223)).drew { l with lines := l.lines + 1, rule := l.rule + 1 } s) := N2
    clear N2
    have hcase : isW ⟨kd, ru, at_, tx⟩ = false ∨ (isW ⟨kd, ru, at_, tx⟩ = true ∧ (tx == [101, 118, 101, 110, 116]) = false) := by
      unfold isEvent at hE
      rcases hw : isW ⟨kd, ru, at_, tx⟩ with _ | _
      · exact .inl rfl
      · right
        rw [hw] at hE
        exact ⟨rfl, by simpa using hE⟩
    clear hE
    have hbw := hlt
    obtain ⟨bw, hbw'⟩ : ∃ bw, isW ⟨kd, ru, at_, tx⟩ = bw := ⟨_, rfl⟩
    have ek : tkV ⟨kd, ru, at_, tx⟩ = .agg #[strV tx, .int .i64 at_, .bool bw, .int .i64 (sgn ⟨kd, ru, at_, tx⟩)] := by unfold tkV; rw [hbw']
    rw [hbw'] at HN2 hcase
    have RN := fun (w1 : World) (h1 : LkAt B b w1 { l with lines := l.lines + 1, rule := l.rule + 1 } s) => rnamed_any ⟨kd, ru, at_, tx⟩ (decide ((l.rule : Int) + 1 ≤ 20)) 3 8 h1 hu hk
    rw [ek] at RN
    have HRN : Hid (∀ (w1 : World), LkAt B b w1 { l with lines := l.lines + 1, rule := l.rule + 1 } s → _) := RN
    clear RN
    rw [ek]
    clear hbw' ek
    have HR2 : Hid (rrC ⟨0, tx, []⟩ = rrC ⟨0, tx, []⟩) := rfl
    obtain ⟨i0, hi, hz0, hz1, hz2⟩ := info_parts Tryz.infoRRl
    rcases hcase with rfl | ⟨rfl, hT⟩
    all_goals
      go_enter Tryz.func162, Tryz.ntmps162
      go_wp2_with fail
      go_cut [] from 9 (fun wd => ∃ s3, LNext B b w l s wd (namedP { l with lines := l.lines + 1, rule := l.rule + 1 } ⟨kd, ru, at_, tx⟩ (decide ((l.rule : Int) + 1 ≤ 20)) 3 8) s3 ∧ s3.vr = s.vr ∧ wd.cell? ⟨w.heap.size, 0, none⟩ = some (strV tx))
      case first =>
        go_region_with (go_at_call 163; refine (HRN.out _ HN2.out.lk).mono ?_; rintro e w3 ⟨rfl, s3, N3, q1, q2, q3⟩)
        all_goals
          go_wp2_with fail
          go_meet
          case rel => exact ⟨_, HN2.out.trans N3, q2, far_tok H.out (by simp) rfl N3.kp rfl⟩
      case rest =>
        obtain ⟨s3, N3, q2, tk0⟩ := hcut
        rw [HRD.out] at N3
        have er : (namedP { l with lines := l.lines + 1, rule := l.rule + 1 } ⟨kd, ru, at_, tx⟩ (decide (l.rule + 1 ≤ 20)) 3 8).rules = l.rules := by unfold namedP; split <;> (try split) <;> rfl
        obtain ⟨ln, hln2⟩ : ∃ ln, namedP { l with lines := l.lines + 1, rule := l.rule + 1 } ⟨kd, ru, at_, tx⟩ (decide (l.rule + 1 ≤ 20)) 3 8 = ln := ⟨_, rfl⟩
        rw [hln2] at N3 er
        have HQ : Hid (beginP l ⟨kd, ru, at_, tx⟩ = { ln with rules := l.rules ++ [⟨0, tx, []⟩] }) := by rw [← hln2]; exact HP
        clear hln2 HP HN2 HRN HRD
        obtain ⟨d0, d1, d2, d3, d4, d5, d6, d7, d8, fz3⟩ := N3.lk.cells
        have HU : Hid (wc.ownsRow B 269 3 s3.vr ln.rules.length (ln.rules.flatMap rrC)) := N3.lk.own1
        have hbw2 := N3.lk.lt
        have hB3 : B ≤ wc.heap.size := by have := N3.lk.low; omega
        have hw3 : w.heap.size < wc.heap.size := World.block_lt_of_cell? _ _ tk0
        have HN3 : Hid (LNext B b w l s wc ln s3) := N3
        have hr3 : ln.rules.length ≤ 1000 := by rw [er]; exact hr
        have HER : Hid (ln.rules = l.rules) := er
        clear N3 er c0 c1 c2 c3 c4 c5 c6 c7 c8 fz q2 d0 d1 d2 d3 d4 d6 d7 d8
        go_wp2_with fail
        go_region_law (refine step_append_lies _ rfl (.tmp 56) (.tmp 60) 216 rfl B 269 i0 _ 3 40 Tryz.underlying216 hi hz0 hz1 hz2 rfl (by decide) s3.vr ln.rules.length _ (by simp [Act.eval, Act.put]) (by first | exact HU.out.alloc _ | exact (HU.out.alloc _).drew) ⟨wc.heap.size, 0, none⟩ 1 1 (rrC ⟨0, tx, []⟩) (by simp [Act.eval, Act.put]) rfl (by exact news_l rfl) (one_rr _) (by decide) (by unfold maxLen; omega) (by omega) (by simp; omega) _ rfl ?_; intro g cap w2 hown hgrow hat hlt1; obtain ⟨HM, e7, f7⟩ := after_rrule HN3.out.lk hown (grownD hgrow) hat)
        all_goals
          go_wp2_with fail
          go_end0
          refine ⟨rfl, { s3 with vr := .slice (some ⟨g, 0, none⟩) (ln.rules.length + 1) cap }, ?_⟩
          rw [HQ.out, ← HER.out]
          exact HN3.out.trans HM.out
  · have hW : isW ⟨kd, ru, at_, tx⟩ = true := by unfold isEvent at hE; simp at hE; exact hE.1
    have hT : tx = [101, 118, 101, 110, 116] := by unfold isEvent at hE; simp at hE; exact hE.2
    have HP : Hid (beginP l ⟨kd, ru, at_, tx⟩ = { l with lines := l.lines + 1, event := l.event + 1, want := 1, e := if 10 < l.event + 1 then 3 else l.e }) := by show _ = _; unfold beginP; rw [if_pos hE]
    clear hE
    subst hT
    by_cases h10 : 10 < l.event + 1
    · have hI : (10 : Int) < (l.event : Int) + 1 := by omega
      have H10 : Hid (10 < l.event + 1) := h10
      clear h10
      go_enter Tryz.func162, Tryz.ntmps162
      go_wp2_with fail
      refine bodyPost_ret (results_none rfl _ _ _) rfl ⟨rfl, s, ?_⟩
      rw [HP.out, if_pos H10.out]
      exact (((((LNext.refl H.out).put (l2 := { l with lines := l.lines + 1 }) 1 _ rfl rfl rfl rfl).put (l2 := { l with lines := l.lines + 1, event := l.event + 1 }) 7 _ rfl rfl rfl rfl).put (l2 := { l with lines := l.lines + 1, event := l.event + 1, want := 1 }) 0 _ rfl rfl rfl rfl).put (l2 := { l with lines := l.lines + 1, event := l.event + 1, want := 1, e := 3 }) 3 _ rfl rfl rfl rfl).aside ((Below.refl _ _).alloc (Nat.le_refl _) _)
    · have hI : ¬ (10 : Int) < (l.event : Int) + 1 := by omega
      have H10 : Hid (¬ 10 < l.event + 1) := h10
      clear h10
      go_enter Tryz.func162, Tryz.ntmps162
      go_wp2_with fail
      refine bodyPost_ret (results_none rfl _ _ _) rfl ⟨rfl, s, ?_⟩
      rw [HP.out, if_neg H10.out]
      exact ((((LNext.refl H.out).put (l2 := { l with lines := l.lines + 1 }) 1 _ rfl rfl rfl rfl).put (l2 := { l with lines := l.lines + 1, event := l.event + 1 }) 7 _ rfl rfl rfl rfl).put (l2 := { l with lines := l.lines + 1, event := l.event + 1, want := 1 }) 0 _ rfl rfl rfl rfl).aside ((Below.refl _ _).alloc (Nat.le_refl _) _)
end Go.Proofs.YtjmcokcdaddpcaaGreatDoor
