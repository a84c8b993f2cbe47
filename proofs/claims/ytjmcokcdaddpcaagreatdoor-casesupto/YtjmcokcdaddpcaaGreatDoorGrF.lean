import Derived.Test.YtjmcokcdaddpcaaGreatDoorUe
import Derived.Deep.CutRange
set_option linter.unusedVariables false
set_option linter.unusedSimpArgs false
namespace Go.Proofs.YtjmcokcdaddpcaaGreatDoor
open Go.RowKit
abbrev ptrL (b : Nat) : Value := .pointer (some ⟨b, 0, none⟩)
theorem Tryz.infoRUse : (Tryz.prog.info? 271).map (fun i => (i.zero, i.size, i.bytes)) = some (some (.agg #[.string ⟨#[]⟩, .int .i64 0, .bool false, .int .i64 0, .int .i64 0, .int .i64 0]), 6, 56) := by kernel_rfl
theorem Tryz.infoREv : (Tryz.prog.info? 226).map (fun i => (i.zero, i.size, i.bytes)) = some (some (.agg #[.string ⟨#[]⟩, .slice none 0 0, .bool false, .bool false, .bool false]), 5, 48) := by kernel_rfl
theorem Tryz.infoRRl : (Tryz.prog.info? 269).map (fun i => (i.zero, i.size, i.bytes)) = some (some (.agg #[.int .i64 0, .string ⟨#[]⟩, .string ⟨#[]⟩]), 3, 40) := by kernel_rfl
theorem Tryz.infoStr : (Tryz.prog.info? 9).map (fun i => (i.zero, i.size, i.bytes)) = some (some (.string ⟨#[]⟩), 1, 16) := by kernel_rfl
theorem one_ru (u : RU) : ∀ x ∈ ruC u, x.oneCell' = true := by intro x hx; simp [ruC, tkC] at hx; rcases hx with rfl | rfl | rfl | rfl | rfl | rfl <;> rfl
theorem one_rr (u : RR) : ∀ x ∈ rrC u, x.oneCell' = true := by intro x hx; simp [rrC] at hx; rcases hx with rfl | rfl | rfl <;> rfl
theorem risName_at (k : Dsr.Tok) (b : Bool) (hb : isName k = b) (w : World) : Calls Tryz.prog 220 #[tkV k] w fun e w' => e = .returned (.bool b) ∧ Below w.heap.size w w' := by
  subst hb
  exact risName_any k w
theorem LkAt.cells {B b : Nat} {w : World} {l : LK} {s : LS} (h : LkAt B b w l s) :
    w.cell? ⟨b, 0, none⟩ = some (.int .i64 l.want) ∧ w.cell? ⟨b, 1, none⟩ = some (.int .i64 l.lines) ∧ w.cell? ⟨b, 2, none⟩ = some (.int .i64 l.roles) ∧ w.cell? ⟨b, 3, none⟩ = some (.int .i64 l.e) ∧ w.cell? ⟨b, 4, none⟩ = some s.ve ∧
    w.cell? ⟨b, 5, none⟩ = some s.vr ∧ w.cell? ⟨b, 6, none⟩ = some s.vu ∧ w.cell? ⟨b, 7, none⟩ = some (.int .i64 l.event) ∧ w.cell? ⟨b, 8, none⟩ = some (.int .i64 l.rule) ∧ (∀ o, w.frozen? ⟨b, o, none⟩ = false) := by
  have hb := h.blk
  refine ⟨?_, ?_, ?_, ?_, ?_, ?_, ?_, ?_, ?_, ?_⟩
  all_goals first
    | (intro o; simp [World.frozen?, hb])
    | simp [World.cell?, hb]
theorem grownD {w w' : World} {row : Option Nat} (h : w.drew.grownBy w' row) : w.grownBy w' row := ⟨h.os, h.tape, h.output, h.size, h.block⟩
theorem below_alloc1 {w : World} (o : Obj) : Below w.heap.size w (w.alloc o) := (Below.refl _ _).alloc (Nat.le_refl _) _
theorem after_use {B b : Nat} {wc w1 : World} {l : LK} {s : LS} {u : RU} {o : Obj} {g cap : Nat} (HR : LkAt B b wc l s)
    (hown : w1.ownsRow B 271 6 (.slice (some ⟨g, 0, none⟩) (l.uses.length + 1) cap) (l.uses.length + 1) (l.uses.flatMap ruC ++ ruC u)) (hgrow : (wc.alloc o).grownBy w1 s.vu.ownBlock) (hat : s.vu.ownBlock = some g ∨ g = (wc.alloc o).heap.size) :
    Hid (LNext B b wc l s (w1.setCell ⟨b, 6, none⟩ (.slice (some ⟨g, 0, none⟩) (l.uses.length + 1) cap)) { l with uses := l.uses ++ [u] } { s with vu := .slice (some ⟨g, 0, none⟩) (l.uses.length + 1) cap }) ∧ w1.cell? ⟨b, 6, none⟩ = some s.vu ∧ w1.frozen? ⟨b, 6, none⟩ = false := by
  have HA := (LNext.refl HR).aside (below_alloc1 o)
  have hc := HA.lk.cells
  have hne : some b ≠ s.vu.ownBlock := fun e => (HA.lk.rowMine (r := ⟨s.vu, 271, 6, l.uses.length, l.uses.flatMap ruC⟩) (by simp [lkRows]) b e.symm).2 rfl
  refine ⟨HA.trans (HA.lk.useAdd u hown hgrow hat), ?_, ?_⟩
  · rw [hgrow.cell_far ⟨b, 6, none⟩ HA.lk.lt hne]; exact hc.2.2.2.2.2.2.1
  · rw [hgrow.frozen_far ⟨b, 6, none⟩ HA.lk.lt hne]; exact hc.2.2.2.2.2.2.2.2.2 6
set_option maxRecDepth 100000 in
set_option maxHeartbeats 6400000 in
theorem rnamed_any {B b : Nat} {w : World} {l : LK} {s : LS} (k : Dsr.Tok) (room : Bool) (what want : Nat) (h : LkAt B b w l s) (hu : l.uses.length ≤ 1000) (hk : k.text.length ≤ 1000) :
    Calls Tryz.prog 163 #[ptrL b, tkV k, .bool room, .int .i64 what, .int .i64 want] w fun e w' => e = .returned (.tuple #[]) ∧ ∃ s', LNext B b w l s w' (namedP l k room what want) s' ∧ s'.ve = s.ve ∧ s'.vr = s.vr ∧ s'.rv = s.rv := by
  have hlt := h.lt
  have hkI : (k.text.length : Int) ≤ 1000 := by omega
  have H : Hid (LkAt B b w l s) := h
  have hB : B ≤ w.heap.size := by have := h.low; omega
  clear h
  have A0 : LNext B b w l s (w.alloc (.cells #[strV k.text, .int .i64 k.at_, .bool (isW k), .int .i64 (sgn k)] 223)) l s := (LNext.refl H.out).aside ((Below.refl _ _).alloc (Nat.le_refl _) _)
  have HA : Hid (LNext B b w l s (w.alloc (.cells #[strV k.text, .int .i64 k.at_, .bool (isW k), .int .i64 (sgn k)] 223)) l s) := A0
  rcases hn : isName k with _ | _
  · have HE : Hid (namedP l k room what want = { l with e := 2 }) := by show _ = _; unfold namedP; rw [if_pos hn]
    go_enter Tryz.func163, Tryz.ntmps163
    go_wp2_with fail
    refine (risName_at k false hn _).mono ?_
    rintro e w1 ⟨rfl, b1⟩
    have H1 : Hid (LNext B b w l s w1 l s) := HA.out.aside b1
    obtain ⟨c0, c1, c2, c3, c4, c5, c6, c7, c8, fz⟩ := H1.out.lk.cells
    clear b1
    go_wp2_with fail
    go_end0
    refine ⟨rfl, s, ?_, rfl, rfl, rfl⟩
    rw [HE.out]
    exact H1.out.put 3 _ rfl rfl rfl rfl
  · rcases hb : badSize k room with _ | _
    · have HE : Hid (namedP l k room what want = { l with uses := l.uses ++ [⟨k, what, l.lines⟩], want := want }) := by show _ = _; unfold namedP; rw [if_neg (by rw [hn]; decide), if_neg (by rw [hb]; decide)]
      have hroom : room = true := by unfold badSize at hb; cases room <;> simp_all
      have hsz : (k.text.length : Int) ≤ 8 := by unfold badSize at hb; cases room <;> simp_all; omega
      subst hroom
      go_enter Tryz.func163, Tryz.ntmps163
      go_wp2_with fail
      refine (risName_at k true hn _).mono ?_
      rintro e w1 ⟨rfl, b1⟩
      have H1 : Hid (LNext B b w l s w1 l s) := HA.out.aside b1
      obtain ⟨c0, c1, c2, c3, c4, c5, c6, c7, c8, fz⟩ := H1.out.lk.cells
      have hw1 : w.heap.size < w1.heap.size := by have := b1.size; simp at this; omega
      have q1 : w1.heap[w.heap.size]? = some (.cells #[strV k.text, .int .i64 k.at_, .bool (isW k), .int .i64 (sgn k)] 223 (0, 0)) := (b1.block _ (by simp)).trans (heap_alloc_new _ _)
      have t0 : w1.cell? ⟨w.heap.size, 0, none⟩ = some (strV k.text) := by simp [World.cell?, q1]
      have t1 : w1.cell? ⟨w.heap.size, 1, none⟩ = some (.int .i64 k.at_) := by simp [World.cell?, q1]
      have t2 : w1.cell? ⟨w.heap.size, 2, none⟩ = some (.bool (isW k)) := by simp [World.cell?, q1]
      have t3 : w1.cell? ⟨w.heap.size, 3, none⟩ = some (.int .i64 (sgn k)) := by simp [World.cell?, q1]
      have HU : Hid (w1.ownsRow B 271 6 s.vu l.uses.length (l.uses.flatMap ruC)) := H1.out.lk.own2
      obtain ⟨i0, hi, hz0, hz1, hz2⟩ := info_parts Tryz.infoRUse
      have hw1' : B ≤ w1.heap.size := by omega
      have hbw1 := H1.out.lk.lt
      clear b1 q1 A0 c0 c2 c3 c4 c5 c7 c8 hsz hkI hk
      have hdec : decide ((8 : Int) < (k.text.length : Int)) = false := by unfold badSize at hb; simp at hb ⊢; omega
      go_wp2_with fail
      go_cut [] from 11 (fun wd => ∃ s', LNext B b w1 l s wd { l with uses := l.uses ++ [⟨k, what, l.lines⟩] } s' ∧ s'.ve = s.ve ∧ s'.vr = s.vr ∧ s'.rv = s.rv)
      case first =>
        go_region_law (refine step_append_lies _ rfl (.tmp 18) (.tmp 26) 217 rfl B 271 i0 _ 6 56 Tryz.underlying217 hi hz0 hz1 hz2 rfl (by decide) s.vu l.uses.length _ (by simp [Act.eval, Act.put]) (by first | exact HU.out.alloc _ | exact (HU.out.alloc _).drew) ⟨w1.heap.size, 0, none⟩ 1 1 (ruC ⟨k, what, l.lines⟩) (by simp [Act.eval, Act.put]) rfl (by exact news_l rfl) (one_ru _) (by decide) (by unfold maxLen; omega) (by omega) (by simp; omega) _ rfl ?_; intro g cap w2 hown hgrow hat hlt1; obtain ⟨HM, e7, f7⟩ := after_use H1.out.lk hown (grownD hgrow) hat)
        all_goals
          go_wp2_with fail
          go_meet
          case rel => exact ⟨_, HM.out, rfl, rfl, rfl⟩
      case rest =>
        obtain ⟨s', N2, q1, q2, q3⟩ := hcut
        obtain ⟨c0, c1, c2, c3, c4, c5, c6, c7, c8, fz⟩ := N2.lk.cells
        have HN : Hid (LNext B b w1 l s wc { l with uses := l.uses ++ [⟨k, what, l.lines⟩] } s' ∧ s'.ve = s.ve ∧ s'.vr = s.vr ∧ s'.rv = s.rv) := ⟨N2, q1, q2, q3⟩
        clear N2 q1 q2 q3
        go_wp2_with fail
        go_end0
        refine ⟨rfl, s', ?_, HN.out.2⟩
        rw [HE.out]
        exact (H1.out.trans HN.out.1).put 0 _ rfl rfl rfl rfl
    · have HE : Hid (namedP l k room what want = { l with e := 3 }) := by show _ = _; unfold namedP; rw [if_neg (by rw [hn]; decide), if_pos hb]
      go_enter Tryz.func163, Tryz.ntmps163
      go_wp2_with fail
      refine (risName_at k true hn _).mono ?_
      rintro e w1 ⟨rfl, b1⟩
      have H1 : Hid (LNext B b w l s w1 l s) := HA.out.aside b1
      obtain ⟨c0, c1, c2, c3, c4, c5, c6, c7, c8, fz⟩ := H1.out.lk.cells
      have q1 : w1.heap[w.heap.size]? = some (.cells #[strV k.text, .int .i64 k.at_, .bool (isW k), .int .i64 (sgn k)] 223 (0, 0)) := (b1.block _ (by simp)).trans (heap_alloc_new _ _)
      have t0 : w1.cell? ⟨w.heap.size, 0, none⟩ = some (strV k.text) := by simp [World.cell?, q1]
      clear b1 q1
      rcases room with _ | _
      · go_wp2_with fail
        go_end0
        refine ⟨rfl, s, ?_, rfl, rfl, rfl⟩
        rw [HE.out]
        exact H1.out.put 3 _ rfl rfl rfl rfl
      · have hsz : (8 : Int) < (k.text.length : Int) := by unfold badSize at hb; simp at hb; omega
        go_wp2_with fail
        go_end0
        refine ⟨rfl, s, ?_, rfl, rfl, rfl⟩
        rw [HE.out]
        exact H1.out.put 3 _ rfl rfl rfl rfl
end Go.Proofs.YtjmcokcdaddpcaaGreatDoor
