import Derived.Test.YtjmcokcdaddpcaaGreatDoorVb
set_option linter.unusedVariables false
set_option linter.unusedSimpArgs false
namespace Go.Proofs.YtjmcokcdaddpcaaGreatDoor
open Go.RowKit
theorem tmod_nat (c : Int) (n : Nat) (h : 0 ≤ c) (hn : 0 < n) : ∃ k : Nat, k < n ∧ c.tmod n = k := by
  refine ⟨c.toNat % n, Nat.mod_lt _ hn, ?_⟩
  obtain ⟨m, rfl⟩ : ∃ m : Nat, c = m := ⟨c.toNat, by omega⟩
  rw [Int.tmod_eq_emod_of_nonneg h, Int.toNat_natCast, Int.natCast_emod]
theorem lPick_any (c : Int) (n : Nat) (h1 : -9223372036854775808 ≤ c) (h2 : c < 9223372036854775808) (hn : 0 < n) (hn2 : (n : Int) ≤ 3000000000000) (w : World) :
    Calls Tryz.prog 77 #[.int .i64 c, .int .i64 n] w fun x w' => ∃ k : Nat, k < n ∧ x = .returned (.int .i64 k) ∧ w' = w := by
  have hnz : ((n : Int) == 0) = false := by simp; omega
  have hnz2 : ¬ (n : Int) = 0 := by omega
  by_cases hc : c < 0
  · obtain ⟨k, hk, he⟩ := tmod_nat (-(c + 1)) n (by omega) hn
    have hw1 : IntKind.i64.wrap (c + 1) = c + 1 := IntWalk.i64_in _ (by omega)
    have hw2 : IntKind.i64.wrap (-(c + 1)) = -(c + 1) := IntWalk.i64_in _ (by omega)
    have hw3 : IntKind.i64.wrap ((-(c + 1)).tmod n) = (-(c + 1)).tmod n := by rw [he]; exact IntWalk.i64_in _ (by omega)
    go_enter Tryz.func77, Tryz.ntmps77
    go_wp2_with fail
    go_ret
    exact ⟨k, hk, by simp_all, rfl⟩
  · obtain ⟨k, hk, he⟩ := tmod_nat c n (by omega) hn
    have hw3 : IntKind.i64.wrap (c.tmod n) = c.tmod n := by rw [he]; exact IntWalk.i64_in _ (by omega)
    go_enter Tryz.func77, Tryz.ntmps77
    go_wp2_with fail
    go_ret
    exact ⟨k, hk, by simp_all, rfl⟩
theorem cells7A {w : World} {b : Nat} {v0 v1 v2 v3 v4 v5 v6 : Value} {T : TypeId} {fr : Nat × Nat} (h : w.heap[b]? = some (.cells #[v0, v1, v2, v3, v4, v5, v6] T fr)) : w.cell? ⟨b, 0, none⟩ = some v0 ∧ w.cell? ⟨b, 1, none⟩ = some v1 ∧ w.cell? ⟨b, 2, none⟩ = some v2 ∧ w.cell? ⟨b, 3, none⟩ = some v3 ∧ w.cell? ⟨b, 4, none⟩ = some v4 ∧ w.cell? ⟨b, 5, none⟩ = some v5 ∧ w.cell? ⟨b, 6, none⟩ = some v6 := by
  refine ⟨?_, ?_, ?_, ?_, ?_, ?_, ?_⟩ <;> simp [World.cell?, h]
/-- A step that is played. -/
structure StepOk (kd e : Int) : Prop where
  lo : 3 ≤ kd
  hi : kd ≤ 9
  e1 : -9223372036854775808 ≤ e
  e2 : e < 9223372036854775808
set_option maxRecDepth 100000 in
set_option maxHeartbeats 3200000 in
theorem wStep_new {wz : World} {N : Nat} {w : World} {ω : Nat → Nat} {s : WS} (h : WInv wz N w ω s) (e A C : Int) (S R : List UInt8) (ba : Option Addr) (bn bc : Nat) (hbn : s.bn < 1600000000000) (hst : ∀ p ∈ s.ps, p.st = false) :
    Calls Tryz.prog 48 #[ptr s.wb, .agg #[.int .i64 3, .int .i64 e, strV S, strV R, .slice ba bn bc, .int .i64 A, .int .i64 C]] w fun x w' => StepQ wz N s x w' := by
  have H : Hid (WInv wz N w ω s ∧ ∀ p ∈ s.ps, p.st = false) := ⟨h, hst⟩
  clear h hst
  go_enter Tryz.func48, Tryz.ntmps48
  go_wp2_with fail
  refine (wBegins_any (inv_below H.out.1 ((Below.refl _ _).alloc (Nat.le_refl _) _) (fun _ => 0)) ⟨S.toArray⟩ hbn).mono ?_
  rintro y w1 ⟨rfl, ω', s', h1, h2, h3, h4, _, h5⟩
  have HF : Hid (WInv wz N w1 ω' s' ∧ s'.wb = s.wb ∧ s'.bn = s.bn + 1 ∧ s.ps.length ≤ s'.ps.length ∧ ∀ p ∈ s'.ps, p.st = false) := ⟨h1, h2, h3, h4, h5 H.out.2⟩
  clear h1 h2 h3 h4 h5
  go_wp2_with fail
  go_ret
  exact ⟨rfl, ω', s', HF.out.1, HF.out.2.1, by rw [HF.out.2.2.1]; omega, HF.out.2.2.2.1, HF.out.2.2.2.2⟩
set_option maxRecDepth 100000 in
set_option maxHeartbeats 3200000 in
theorem wStep_ask {wz : World} {N : Nat} {w : World} {ω : Nat → Nat} {s : WS} (h : WInv wz N w ω s) (e A C : Int) (S R : List UInt8) (ba : Option Addr) (bn bc : Nat) (hbn : s.bn < 1600000000000) (hst : ∀ p ∈ s.ps, p.st = false) (hps : 0 < s.ps.length) (he1 : -9223372036854775808 ≤ e) (he2 : e < 9223372036854775808) :
    Calls Tryz.prog 48 #[ptr s.wb, .agg #[.int .i64 4, .int .i64 e, strV S, strV R, .slice ba bn bc, .int .i64 A, .int .i64 C]] w fun x w' => StepQ wz N s x w' := by
  have H : Hid (WInv wz N w ω s ∧ ∀ p ∈ s.ps, p.st = false) := ⟨h, hst⟩
  obtain ⟨gl, cl, hvl, _, _⟩ := h.lr.form hps
  have hblk := h.bk.blk
  obtain ⟨s0, _, _, _, _, _, sf⟩ := cells6R hblk
  rw [hvl] at s0
  have hwl : s.wb < w.heap.size := (Array.getElem?_eq_some_iff.1 hblk).1
  have hpz : (s.ps.length : Int) ≤ 3000000000000 := by have := h.pn; omega
  have HV : Hid (s.vl = .slice (some ⟨gl, 0, none⟩) s.ps.length cl) := hvl
  clear h hst hblk hvl
  go_enter Tryz.func48, Tryz.ntmps48
  go_wp2_with fail
  go_cut [5] from 6 (fun k wd => ∃ m : Nat, m < s.ps.length ∧ k = .int .i64 m ∧ Below (w.heap.size + 1) (w.alloc (.cells #[.int .i64 4, .int .i64 e, strV S, strV R, .slice ba bn bc, .int .i64 A, .int .i64 C] 29)) wd)
  case first =>
    go_region_with (go_at_call 77; refine (lPick_any e s.ps.length he1 he2 hps hpz _).mono ?_; rintro x w1 ⟨k, hk, rfl, rfl⟩)
    all_goals
      go_wp2_with fail
      go_meet
      case rel => exact ⟨k, hk, rfl, ⟨rfl, rfl, rfl, Nat.le_refl _, fun _ _ => rfl⟩⟩
  case rest =>
    obtain ⟨k, hk, rfl, hb⟩ := hcut
    obtain ⟨p, hp⟩ : ∃ p, s.ps[k]? = some p := ⟨_, List.getElem?_eq_getElem hk⟩
    obtain ⟨la, pa, ln, pn, lc, pc, hIn⟩ := askIn H.out.1 hp
    have hlr := H.out.1.lr
    rw [HV.out] at hlr
    obtain ⟨r0, r1, r2, r3, hgl⟩ := pr_at hlr hp
    rw [hIn.vs.1] at r2
    rw [hIn.vs.2] at r3
    have hbw : Below w.heap.size w wc := ((Below.refl _ _).alloc (Nat.le_refl _) _).trans (hb.mono (by omega))
    have q0 : wc.heap[w.heap.size]? = some (.cells #[.int .i64 4, .int .i64 e, strV S, strV R, .slice ba bn bc, .int .i64 A, .int .i64 C] 29 (0, 0)) := (hb.block _ (by omega)).trans (heap_alloc_new _ _)
    obtain ⟨y0, y1, y2, y3, y4, y5, y6⟩ := cells7A q0
    have hql : w.heap.size < wc.heap.size := (Array.getElem?_eq_some_iff.1 q0).1
    have hwlc : s.wb < wc.heap.size := by omega
    have hglc : gl < wc.heap.size := by omega
    have s0c := (hbw.cell (p := ⟨s.wb, 0, none⟩) hwl).trans s0
    have r0c := (hbw.cell (p := ⟨gl, k * 4, none⟩) hgl).trans r0
    have r1c := (hbw.cell (p := ⟨gl, k * 4 + 1, none⟩) hgl).trans r1
    have r2c := (hbw.cell (p := ⟨gl, k * 4 + 2, none⟩) hgl).trans r2
    have r3c := (hbw.cell (p := ⟨gl, k * 4 + 3, none⟩) hgl).trans r3
    have HC : Hid (∀ o, Calls Tryz.prog 78 #[ptr s.wb, .int .i64 k, .agg #[.int .i64 4, .int .i64 e, strV S, strV R, .slice ba bn bc, .int .i64 A, .int .i64 C]] (wc.alloc o) fun x w' => StepQ wz N s x w') := fun o => by
      have hW := inv_below H.out.1 (hbw.alloc hbw.size o) (fun _ => 0)
      exact wMoves_ask hW hp e A C S R ba bn bc hbn H.out.2
    have hkz : (k : Int) < s.ps.length := by omega
    clear hb hbw q0 r0 r1 r2 r3 s0 hlr hIn hp sf
    go_wp2_with fail
    refine (HC.out _).mono ?_
    rintro y w3 hQ
    obtain ⟨rfl, hQ2⟩ := hQ
    have HF : Hid _ := hQ2
    clear hQ2
    go_wp2_with fail
    go_ret
    exact ⟨rfl, HF.out⟩
set_option maxRecDepth 100000 in
set_option maxHeartbeats 3200000 in
theorem wStep_settle {wz : World} {N : Nat} {w : World} {ω : Nat → Nat} {s : WS} (h : WInv wz N w ω s) (e A C : Int) (S R : List UInt8) (ba : Option Addr) (bn bc : Nat) (hbn : s.bn < 1600000000000) (hst : ∀ p ∈ s.ps, p.st = false) (hps : 0 < s.ps.length) (he1 : -9223372036854775808 ≤ e) (he2 : e < 9223372036854775808) :
    Calls Tryz.prog 48 #[ptr s.wb, .agg #[.int .i64 5, .int .i64 e, strV S, strV R, .slice ba bn bc, .int .i64 A, .int .i64 C]] w fun x w' => StepQ wz N s x w' := by
  have H : Hid (WInv wz N w ω s ∧ ∀ p ∈ s.ps, p.st = false) := ⟨h, hst⟩
  obtain ⟨gl, cl, hvl, _, _⟩ := h.lr.form hps
  have hblk := h.bk.blk
  obtain ⟨s0, _, _, _, _, _, sf⟩ := cells6R hblk
  rw [hvl] at s0
  have hwl : s.wb < w.heap.size := (Array.getElem?_eq_some_iff.1 hblk).1
  have hpz : (s.ps.length : Int) ≤ 3000000000000 := by have := h.pn; omega
  have HV : Hid (s.vl = .slice (some ⟨gl, 0, none⟩) s.ps.length cl) := hvl
  clear h hst hblk hvl
  go_enter Tryz.func48, Tryz.ntmps48
  go_wp2_with fail
  go_cut [5] from 6 (fun k wd => ∃ m : Nat, m < s.ps.length ∧ k = .int .i64 m ∧ Below (w.heap.size + 1) (w.alloc (.cells #[.int .i64 5, .int .i64 e, strV S, strV R, .slice ba bn bc, .int .i64 A, .int .i64 C] 29)) wd)
  case first =>
    go_region_with (go_at_call 77; refine (lPick_any e s.ps.length he1 he2 hps hpz _).mono ?_; rintro x w1 ⟨k, hk, rfl, rfl⟩)
    all_goals
      go_wp2_with fail
      go_meet
      case rel => exact ⟨k, hk, rfl, ⟨rfl, rfl, rfl, Nat.le_refl _, fun _ _ => rfl⟩⟩
  case rest =>
    obtain ⟨k, hk, rfl, hb⟩ := hcut
    obtain ⟨p, hp⟩ : ∃ p, s.ps[k]? = some p := ⟨_, List.getElem?_eq_getElem hk⟩
    obtain ⟨la, pa, ln, pn, lc, pc, hIn⟩ := askIn H.out.1 hp
    have hlr := H.out.1.lr
    rw [HV.out] at hlr
    obtain ⟨r0, r1, r2, r3, hgl⟩ := pr_at hlr hp
    rw [hIn.vs.1] at r2
    rw [hIn.vs.2] at r3
    have hbw : Below w.heap.size w wc := ((Below.refl _ _).alloc (Nat.le_refl _) _).trans (hb.mono (by omega))
    have q0 : wc.heap[w.heap.size]? = some (.cells #[.int .i64 5, .int .i64 e, strV S, strV R, .slice ba bn bc, .int .i64 A, .int .i64 C] 29 (0, 0)) := (hb.block _ (by omega)).trans (heap_alloc_new _ _)
    obtain ⟨y0, y1, y2, y3, y4, y5, y6⟩ := cells7A q0
    have hql : w.heap.size < wc.heap.size := (Array.getElem?_eq_some_iff.1 q0).1
    have hwlc : s.wb < wc.heap.size := by omega
    have hglc : gl < wc.heap.size := by omega
    have s0c := (hbw.cell (p := ⟨s.wb, 0, none⟩) hwl).trans s0
    have r0c := (hbw.cell (p := ⟨gl, k * 4, none⟩) hgl).trans r0
    have r1c := (hbw.cell (p := ⟨gl, k * 4 + 1, none⟩) hgl).trans r1
    have r2c := (hbw.cell (p := ⟨gl, k * 4 + 2, none⟩) hgl).trans r2
    have r3c := (hbw.cell (p := ⟨gl, k * 4 + 3, none⟩) hgl).trans r3
    have HC : Hid (∀ o, Calls Tryz.prog 78 #[ptr s.wb, .int .i64 k, .agg #[.int .i64 5, .int .i64 e, strV S, strV R, .slice ba bn bc, .int .i64 A, .int .i64 C]] (wc.alloc o) fun x w' => StepQ wz N s x w') := fun o => by
      have hW := inv_below H.out.1 (hbw.alloc hbw.size o) (fun _ => 0)
      exact wMoves_settle hW hp e A C S R ba bn bc hbn H.out.2
    have hkz : (k : Int) < s.ps.length := by omega
    clear hb hbw q0 r0 r1 r2 r3 s0 hlr hIn hp sf
    go_wp2_with fail
    refine (HC.out _).mono ?_
    rintro y w3 hQ
    obtain ⟨rfl, hQ2⟩ := hQ
    have HF : Hid _ := hQ2
    clear hQ2
    go_wp2_with fail
    go_ret
    exact ⟨rfl, HF.out⟩
set_option maxRecDepth 100000 in
set_option maxHeartbeats 3200000 in
theorem wStep_mark {wz : World} {N : Nat} {w : World} {ω : Nat → Nat} {s : WS} (h : WInv wz N w ω s) (e A C : Int) (S R : List UInt8) (ba : Option Addr) (bn bc : Nat) (hbn : s.bn < 1600000000000) (hst : ∀ p ∈ s.ps, p.st = false) (hps : 0 < s.ps.length) (he1 : -9223372036854775808 ≤ e) (he2 : e < 9223372036854775808) :
    Calls Tryz.prog 48 #[ptr s.wb, .agg #[.int .i64 6, .int .i64 e, strV S, strV R, .slice ba bn bc, .int .i64 A, .int .i64 C]] w fun x w' => StepQ wz N s x w' := by
  have H : Hid (WInv wz N w ω s ∧ ∀ p ∈ s.ps, p.st = false) := ⟨h, hst⟩
  obtain ⟨gl, cl, hvl, _, _⟩ := h.lr.form hps
  have hblk := h.bk.blk
  obtain ⟨s0, _, _, _, _, _, sf⟩ := cells6R hblk
  rw [hvl] at s0
  have hwl : s.wb < w.heap.size := (Array.getElem?_eq_some_iff.1 hblk).1
  have hpz : (s.ps.length : Int) ≤ 3000000000000 := by have := h.pn; omega
  have HV : Hid (s.vl = .slice (some ⟨gl, 0, none⟩) s.ps.length cl) := hvl
  clear h hst hblk hvl
  go_enter Tryz.func48, Tryz.ntmps48
  go_wp2_with fail
  go_cut [5] from 6 (fun k wd => ∃ m : Nat, m < s.ps.length ∧ k = .int .i64 m ∧ Below (w.heap.size + 1) (w.alloc (.cells #[.int .i64 6, .int .i64 e, strV S, strV R, .slice ba bn bc, .int .i64 A, .int .i64 C] 29)) wd)
  case first =>
    go_region_with (go_at_call 77; refine (lPick_any e s.ps.length he1 he2 hps hpz _).mono ?_; rintro x w1 ⟨k, hk, rfl, rfl⟩)
    all_goals
      go_wp2_with fail
      go_meet
      case rel => exact ⟨k, hk, rfl, ⟨rfl, rfl, rfl, Nat.le_refl _, fun _ _ => rfl⟩⟩
  case rest =>
    obtain ⟨k, hk, rfl, hb⟩ := hcut
    obtain ⟨p, hp⟩ : ∃ p, s.ps[k]? = some p := ⟨_, List.getElem?_eq_getElem hk⟩
    obtain ⟨la, pa, ln, pn, lc, pc, hIn⟩ := askIn H.out.1 hp
    have hlr := H.out.1.lr
    rw [HV.out] at hlr
    obtain ⟨r0, r1, r2, r3, hgl⟩ := pr_at hlr hp
    rw [hIn.vs.1] at r2
    rw [hIn.vs.2] at r3
    have hbw : Below w.heap.size w wc := ((Below.refl _ _).alloc (Nat.le_refl _) _).trans (hb.mono (by omega))
    have q0 : wc.heap[w.heap.size]? = some (.cells #[.int .i64 6, .int .i64 e, strV S, strV R, .slice ba bn bc, .int .i64 A, .int .i64 C] 29 (0, 0)) := (hb.block _ (by omega)).trans (heap_alloc_new _ _)
    obtain ⟨y0, y1, y2, y3, y4, y5, y6⟩ := cells7A q0
    have hql : w.heap.size < wc.heap.size := (Array.getElem?_eq_some_iff.1 q0).1
    have hwlc : s.wb < wc.heap.size := by omega
    have hglc : gl < wc.heap.size := by omega
    have s0c := (hbw.cell (p := ⟨s.wb, 0, none⟩) hwl).trans s0
    have r0c := (hbw.cell (p := ⟨gl, k * 4, none⟩) hgl).trans r0
    have r1c := (hbw.cell (p := ⟨gl, k * 4 + 1, none⟩) hgl).trans r1
    have r2c := (hbw.cell (p := ⟨gl, k * 4 + 2, none⟩) hgl).trans r2
    have r3c := (hbw.cell (p := ⟨gl, k * 4 + 3, none⟩) hgl).trans r3
    have HC : Hid (∀ o, Calls Tryz.prog 79 #[ptr s.wb, .agg #[ptr p.cb, ptr p.rb, .slice la ln lc, .slice pa pn pc], .agg #[.int .i64 6, .int .i64 e, strV S, strV R, .slice ba bn bc, .int .i64 A, .int .i64 C]] (wc.alloc o) fun x w' => StepQ wz N s x w') := fun o => by
      have hW := inv_below H.out.1 (hbw.alloc hbw.size o) (fun _ => 0)
      rw [← hIn.vs.1, ← hIn.vs.2]
      exact wAsks_mark hW hp e A C S R ba bn bc H.out.2
    have hkz : (k : Int) < s.ps.length := by omega
    clear hb hbw q0 r0 r1 r2 r3 s0 hlr hIn hp sf
    go_wp2_with fail
    refine (HC.out _).mono ?_
    rintro y w3 hQ
    obtain ⟨rfl, hQ2⟩ := hQ
    have HF : Hid _ := hQ2
    clear hQ2
    go_wp2_with fail
    go_ret
    exact ⟨rfl, HF.out⟩
set_option maxRecDepth 100000 in
set_option maxHeartbeats 3200000 in
theorem wStep_enabled {wz : World} {N : Nat} {w : World} {ω : Nat → Nat} {s : WS} (h : WInv wz N w ω s) (e A C : Int) (S R : List UInt8) (ba : Option Addr) (bn bc : Nat) (hbn : s.bn < 1600000000000) (hst : ∀ p ∈ s.ps, p.st = false) (hps : 0 < s.ps.length) (he1 : -9223372036854775808 ≤ e) (he2 : e < 9223372036854775808) :
    Calls Tryz.prog 48 #[ptr s.wb, .agg #[.int .i64 7, .int .i64 e, strV S, strV R, .slice ba bn bc, .int .i64 A, .int .i64 C]] w fun x w' => StepQ wz N s x w' := by
  have H : Hid (WInv wz N w ω s ∧ ∀ p ∈ s.ps, p.st = false) := ⟨h, hst⟩
  obtain ⟨gl, cl, hvl, _, _⟩ := h.lr.form hps
  have hblk := h.bk.blk
  obtain ⟨s0, _, _, _, _, _, sf⟩ := cells6R hblk
  rw [hvl] at s0
  have hwl : s.wb < w.heap.size := (Array.getElem?_eq_some_iff.1 hblk).1
  have hpz : (s.ps.length : Int) ≤ 3000000000000 := by have := h.pn; omega
  have HV : Hid (s.vl = .slice (some ⟨gl, 0, none⟩) s.ps.length cl) := hvl
  clear h hst hblk hvl
  go_enter Tryz.func48, Tryz.ntmps48
  go_wp2_with fail
  go_cut [5] from 6 (fun k wd => ∃ m : Nat, m < s.ps.length ∧ k = .int .i64 m ∧ Below (w.heap.size + 1) (w.alloc (.cells #[.int .i64 7, .int .i64 e, strV S, strV R, .slice ba bn bc, .int .i64 A, .int .i64 C] 29)) wd)
  case first =>
    go_region_with (go_at_call 77; refine (lPick_any e s.ps.length he1 he2 hps hpz _).mono ?_; rintro x w1 ⟨k, hk, rfl, rfl⟩)
    all_goals
      go_wp2_with fail
      go_meet
      case rel => exact ⟨k, hk, rfl, ⟨rfl, rfl, rfl, Nat.le_refl _, fun _ _ => rfl⟩⟩
  case rest =>
    obtain ⟨k, hk, rfl, hb⟩ := hcut
    obtain ⟨p, hp⟩ : ∃ p, s.ps[k]? = some p := ⟨_, List.getElem?_eq_getElem hk⟩
    obtain ⟨la, pa, ln, pn, lc, pc, hIn⟩ := askIn H.out.1 hp
    have hlr := H.out.1.lr
    rw [HV.out] at hlr
    obtain ⟨r0, r1, r2, r3, hgl⟩ := pr_at hlr hp
    rw [hIn.vs.1] at r2
    rw [hIn.vs.2] at r3
    have hbw : Below w.heap.size w wc := ((Below.refl _ _).alloc (Nat.le_refl _) _).trans (hb.mono (by omega))
    have q0 : wc.heap[w.heap.size]? = some (.cells #[.int .i64 7, .int .i64 e, strV S, strV R, .slice ba bn bc, .int .i64 A, .int .i64 C] 29 (0, 0)) := (hb.block _ (by omega)).trans (heap_alloc_new _ _)
    obtain ⟨y0, y1, y2, y3, y4, y5, y6⟩ := cells7A q0
    have hql : w.heap.size < wc.heap.size := (Array.getElem?_eq_some_iff.1 q0).1
    have hwlc : s.wb < wc.heap.size := by omega
    have hglc : gl < wc.heap.size := by omega
    have s0c := (hbw.cell (p := ⟨s.wb, 0, none⟩) hwl).trans s0
    have r0c := (hbw.cell (p := ⟨gl, k * 4, none⟩) hgl).trans r0
    have r1c := (hbw.cell (p := ⟨gl, k * 4 + 1, none⟩) hgl).trans r1
    have r2c := (hbw.cell (p := ⟨gl, k * 4 + 2, none⟩) hgl).trans r2
    have r3c := (hbw.cell (p := ⟨gl, k * 4 + 3, none⟩) hgl).trans r3
    have HC : Hid (∀ o, Calls Tryz.prog 79 #[ptr s.wb, .agg #[ptr p.cb, ptr p.rb, .slice la ln lc, .slice pa pn pc], .agg #[.int .i64 7, .int .i64 e, strV S, strV R, .slice ba bn bc, .int .i64 A, .int .i64 C]] (wc.alloc o) fun x w' => StepQ wz N s x w') := fun o => by
      have hW := inv_below H.out.1 (hbw.alloc hbw.size o) (fun _ => 0)
      rw [← hIn.vs.1, ← hIn.vs.2]
      exact wAsks_enabled hW hp e A C S R ba bn bc hbn H.out.2
    have hkz : (k : Int) < s.ps.length := by omega
    clear hb hbw q0 r0 r1 r2 r3 s0 hlr hIn hp sf
    go_wp2_with fail
    refine (HC.out _).mono ?_
    rintro y w3 hQ
    obtain ⟨rfl, hQ2⟩ := hQ
    have HF : Hid _ := hQ2
    clear hQ2
    go_wp2_with fail
    go_ret
    exact ⟨rfl, HF.out⟩
set_option maxRecDepth 100000 in
set_option maxHeartbeats 3200000 in
theorem wStep_acc {wz : World} {N : Nat} {w : World} {ω : Nat → Nat} {s : WS} (h : WInv wz N w ω s) (e A C : Int) (S R : List UInt8) (ba : Option Addr) (bn bc : Nat) (hbn : s.bn < 1600000000000) (hst : ∀ p ∈ s.ps, p.st = false) (hps : 0 < s.ps.length) (he1 : -9223372036854775808 ≤ e) (he2 : e < 9223372036854775808) :
    Calls Tryz.prog 48 #[ptr s.wb, .agg #[.int .i64 8, .int .i64 e, strV S, strV R, .slice ba bn bc, .int .i64 A, .int .i64 C]] w fun x w' => StepQ wz N s x w' := by
  have H : Hid (WInv wz N w ω s ∧ ∀ p ∈ s.ps, p.st = false) := ⟨h, hst⟩
  obtain ⟨gl, cl, hvl, _, _⟩ := h.lr.form hps
  have hblk := h.bk.blk
  obtain ⟨s0, _, _, _, _, _, sf⟩ := cells6R hblk
  rw [hvl] at s0
  have hwl : s.wb < w.heap.size := (Array.getElem?_eq_some_iff.1 hblk).1
  have hpz : (s.ps.length : Int) ≤ 3000000000000 := by have := h.pn; omega
  have HV : Hid (s.vl = .slice (some ⟨gl, 0, none⟩) s.ps.length cl) := hvl
  clear h hst hblk hvl
  go_enter Tryz.func48, Tryz.ntmps48
  go_wp2_with fail
  go_cut [5] from 6 (fun k wd => ∃ m : Nat, m < s.ps.length ∧ k = .int .i64 m ∧ Below (w.heap.size + 1) (w.alloc (.cells #[.int .i64 8, .int .i64 e, strV S, strV R, .slice ba bn bc, .int .i64 A, .int .i64 C] 29)) wd)
  case first =>
    go_region_with (go_at_call 77; refine (lPick_any e s.ps.length he1 he2 hps hpz _).mono ?_; rintro x w1 ⟨k, hk, rfl, rfl⟩)
    all_goals
      go_wp2_with fail
      go_meet
      case rel => exact ⟨k, hk, rfl, ⟨rfl, rfl, rfl, Nat.le_refl _, fun _ _ => rfl⟩⟩
  case rest =>
    obtain ⟨k, hk, rfl, hb⟩ := hcut
    obtain ⟨p, hp⟩ : ∃ p, s.ps[k]? = some p := ⟨_, List.getElem?_eq_getElem hk⟩
    obtain ⟨la, pa, ln, pn, lc, pc, hIn⟩ := askIn H.out.1 hp
    have hlr := H.out.1.lr
    rw [HV.out] at hlr
    obtain ⟨r0, r1, r2, r3, hgl⟩ := pr_at hlr hp
    rw [hIn.vs.1] at r2
    rw [hIn.vs.2] at r3
    have hbw : Below w.heap.size w wc := ((Below.refl _ _).alloc (Nat.le_refl _) _).trans (hb.mono (by omega))
    have q0 : wc.heap[w.heap.size]? = some (.cells #[.int .i64 8, .int .i64 e, strV S, strV R, .slice ba bn bc, .int .i64 A, .int .i64 C] 29 (0, 0)) := (hb.block _ (by omega)).trans (heap_alloc_new _ _)
    obtain ⟨y0, y1, y2, y3, y4, y5, y6⟩ := cells7A q0
    have hql : w.heap.size < wc.heap.size := (Array.getElem?_eq_some_iff.1 q0).1
    have hwlc : s.wb < wc.heap.size := by omega
    have hglc : gl < wc.heap.size := by omega
    have s0c := (hbw.cell (p := ⟨s.wb, 0, none⟩) hwl).trans s0
    have r0c := (hbw.cell (p := ⟨gl, k * 4, none⟩) hgl).trans r0
    have r1c := (hbw.cell (p := ⟨gl, k * 4 + 1, none⟩) hgl).trans r1
    have r2c := (hbw.cell (p := ⟨gl, k * 4 + 2, none⟩) hgl).trans r2
    have r3c := (hbw.cell (p := ⟨gl, k * 4 + 3, none⟩) hgl).trans r3
    have HC : Hid (∀ o, Calls Tryz.prog 79 #[ptr s.wb, .agg #[ptr p.cb, ptr p.rb, .slice la ln lc, .slice pa pn pc], .agg #[.int .i64 8, .int .i64 e, strV S, strV R, .slice ba bn bc, .int .i64 A, .int .i64 C]] (wc.alloc o) fun x w' => StepQ wz N s x w') := fun o => by
      have hW := inv_below H.out.1 (hbw.alloc hbw.size o) (fun _ => 0)
      rw [← hIn.vs.1, ← hIn.vs.2]
      exact wAsks_acc hW hp e A C S R ba bn bc H.out.2
    have hkz : (k : Int) < s.ps.length := by omega
    clear hb hbw q0 r0 r1 r2 r3 s0 hlr hIn hp sf
    go_wp2_with fail
    refine (HC.out _).mono ?_
    rintro y w3 hQ
    obtain ⟨rfl, hQ2⟩ := hQ
    have HF : Hid _ := hQ2
    clear hQ2
    go_wp2_with fail
    go_ret
    exact ⟨rfl, HF.out⟩
set_option maxRecDepth 100000 in
set_option maxHeartbeats 3200000 in
theorem wStep_head {wz : World} {N : Nat} {w : World} {ω : Nat → Nat} {s : WS} (h : WInv wz N w ω s) (e A C : Int) (S R : List UInt8) (ba : Option Addr) (bn bc : Nat) (hbn : s.bn < 1600000000000) (hst : ∀ p ∈ s.ps, p.st = false) (hps : 0 < s.ps.length) (he1 : -9223372036854775808 ≤ e) (he2 : e < 9223372036854775808) :
    Calls Tryz.prog 48 #[ptr s.wb, .agg #[.int .i64 9, .int .i64 e, strV S, strV R, .slice ba bn bc, .int .i64 A, .int .i64 C]] w fun x w' => StepQ wz N s x w' := by
  have H : Hid (WInv wz N w ω s ∧ ∀ p ∈ s.ps, p.st = false) := ⟨h, hst⟩
  obtain ⟨gl, cl, hvl, _, _⟩ := h.lr.form hps
  have hblk := h.bk.blk
  obtain ⟨s0, _, _, _, _, _, sf⟩ := cells6R hblk
  rw [hvl] at s0
  have hwl : s.wb < w.heap.size := (Array.getElem?_eq_some_iff.1 hblk).1
  have hpz : (s.ps.length : Int) ≤ 3000000000000 := by have := h.pn; omega
  have HV : Hid (s.vl = .slice (some ⟨gl, 0, none⟩) s.ps.length cl) := hvl
  clear h hst hblk hvl
  go_enter Tryz.func48, Tryz.ntmps48
  go_wp2_with fail
  go_cut [5] from 6 (fun k wd => ∃ m : Nat, m < s.ps.length ∧ k = .int .i64 m ∧ Below (w.heap.size + 1) (w.alloc (.cells #[.int .i64 9, .int .i64 e, strV S, strV R, .slice ba bn bc, .int .i64 A, .int .i64 C] 29)) wd)
  case first =>
    go_region_with (go_at_call 77; refine (lPick_any e s.ps.length he1 he2 hps hpz _).mono ?_; rintro x w1 ⟨k, hk, rfl, rfl⟩)
    all_goals
      go_wp2_with fail
      go_meet
      case rel => exact ⟨k, hk, rfl, ⟨rfl, rfl, rfl, Nat.le_refl _, fun _ _ => rfl⟩⟩
  case rest =>
    obtain ⟨k, hk, rfl, hb⟩ := hcut
    obtain ⟨p, hp⟩ : ∃ p, s.ps[k]? = some p := ⟨_, List.getElem?_eq_getElem hk⟩
    obtain ⟨la, pa, ln, pn, lc, pc, hIn⟩ := askIn H.out.1 hp
    have hlr := H.out.1.lr
    rw [HV.out] at hlr
    obtain ⟨r0, r1, r2, r3, hgl⟩ := pr_at hlr hp
    rw [hIn.vs.1] at r2
    rw [hIn.vs.2] at r3
    have hbw : Below w.heap.size w wc := ((Below.refl _ _).alloc (Nat.le_refl _) _).trans (hb.mono (by omega))
    have q0 : wc.heap[w.heap.size]? = some (.cells #[.int .i64 9, .int .i64 e, strV S, strV R, .slice ba bn bc, .int .i64 A, .int .i64 C] 29 (0, 0)) := (hb.block _ (by omega)).trans (heap_alloc_new _ _)
    obtain ⟨y0, y1, y2, y3, y4, y5, y6⟩ := cells7A q0
    have hql : w.heap.size < wc.heap.size := (Array.getElem?_eq_some_iff.1 q0).1
    have hwlc : s.wb < wc.heap.size := by omega
    have hglc : gl < wc.heap.size := by omega
    have s0c := (hbw.cell (p := ⟨s.wb, 0, none⟩) hwl).trans s0
    have r0c := (hbw.cell (p := ⟨gl, k * 4, none⟩) hgl).trans r0
    have r1c := (hbw.cell (p := ⟨gl, k * 4 + 1, none⟩) hgl).trans r1
    have r2c := (hbw.cell (p := ⟨gl, k * 4 + 2, none⟩) hgl).trans r2
    have r3c := (hbw.cell (p := ⟨gl, k * 4 + 3, none⟩) hgl).trans r3
    have HC : Hid (∀ o, Calls Tryz.prog 79 #[ptr s.wb, .agg #[ptr p.cb, ptr p.rb, .slice la ln lc, .slice pa pn pc], .agg #[.int .i64 9, .int .i64 e, strV S, strV R, .slice ba bn bc, .int .i64 A, .int .i64 C]] (wc.alloc o) fun x w' => StepQ wz N s x w') := fun o => by
      have hW := inv_below H.out.1 (hbw.alloc hbw.size o) (fun _ => 0)
      rw [← hIn.vs.1, ← hIn.vs.2]
      exact wAsks_head hW hp e A C S R ba bn bc H.out.2
    have hkz : (k : Int) < s.ps.length := by omega
    clear hb hbw q0 r0 r1 r2 r3 s0 hlr hIn hp sf
    go_wp2_with fail
    refine (HC.out _).mono ?_
    rintro y w3 hQ
    obtain ⟨rfl, hQ2⟩ := hQ
    have HF : Hid _ := hQ2
    clear hQ2
    go_wp2_with fail
    go_ret
    exact ⟨rfl, HF.out⟩
end Go.Proofs.YtjmcokcdaddpcaaGreatDoor
