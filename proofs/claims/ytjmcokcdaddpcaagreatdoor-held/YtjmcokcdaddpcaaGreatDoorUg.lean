import Derived.Test.YtjmcokcdaddpcaaGreatDoorUe
import Derived.Test.YtjmcokcdaddpcaaGreatDoorUf
import Derived.Test.YtjmcokcdaddpcaaGreatDoorClA
set_option linter.unusedVariables false
set_option linter.unusedSimpArgs false
namespace Go.Proofs.YtjmcokcdaddpcaaGreatDoor
open Go.RowKit
/-- What waits, as a value; its block. -/
def wtV (q : Option (Nat × Dsr.Wt)) : Value := match q with
  | some (b, _) => ptr b
  | none => .pointer none
abbrev wtB (q : Dsr.Wt) : Obj := .cells #[strV q.ev, .int .u8 q.verdict, .int .u32 q.num, .int .i64 q.len, .int .u32 q.hash] 126 (0, 0)
abbrev csB (sb : Nat) (c : Dsr.Cs) (wv : Value) : Obj := .cells #[ptr sb, .int .u32 c.num, .int .i64 c.len, .int .u32 c.hash, wv] 119 (0, 0)
/-- The numbers of a case. -/
structure COk (c : Dsr.Cs) : Prop where
  g : GOk c.es c.rs
  num : 16 * c.num ≤ c.len
  len : c.len ≤ 2000
  hash : c.hash < 4294967296
  wait : ∀ q, c.wait = some q → 16 * q.num ≤ q.len ∧ q.len ≤ 2000 ∧ q.hash < 4294967296 ∧ q.verdict ≤ 4 ∧ (q.verdict = 0 → q.ev ∈ nms c.es)
/-- A case in memory: its block, its state, what waits. -/
structure CsAt (N : Nat) (w : World) (cb : Nat) (c : Dsr.Cs) (a : SA) (wb : Option Nat) : Prop where
  st : StAt N w c.es c.rs a
  blk : w.heap[cb]? = some (csB a.sb c (wtV (wb.bind fun b => c.wait.map fun q => (b, q))))
  wsome : wb.isSome = c.wait.isSome
  wt : ∀ b q, wb = some b → c.wait = some q → w.heap[b]? = some (wtB q)
  cbN : N ≤ cb
  far : ¬ Foot c.es c.rs a cb ∧ ∀ b, wb = some b → ¬ Foot c.es c.rs a b ∧ b ≠ cb
  ok : COk c
/-- All blocks of a case. -/
def CFoot (c : Dsr.Cs) (a : SA) (cb : Nat) (wb : Option Nat) (k : Nat) : Prop := k = cb ∨ wb = some k ∨ Foot c.es c.rs a k
def markE (o : Option Dsr.Ev) : Int := match o with
  | some _ => 0
  | none => 4
section
variable {N : Nat} {w w' : World} {cb : Nat} {c : Dsr.Cs} {a : SA} {wb : Option Nat}
theorem CsAt.lt (h : CsAt N w cb c a wb) : cb < w.heap.size := (Array.getElem?_eq_some_iff.1 h.blk).1
theorem CsAt.same (h : CsAt N w cb c a wb) (hs : w.heap.size ≤ w'.heap.size) (hk : ∀ k, k < w.heap.size → CFoot c a cb wb k → w'.heap[k]? = w.heap[k]?) : CsAt N w' cb c a wb := by
  refine ⟨h.st.same hs (fun k h1 h2 => hk k h1 (.inr (.inr h2))), ?_, h.wsome, fun b q h1 h2 => ?_, h.cbN, h.far, h.ok⟩
  · rw [hk cb h.lt (.inl rfl)]; exact h.blk
  · have := h.wt b q h1 h2
    rw [hk b (Array.getElem?_eq_some_iff.1 this).1 (.inr (.inl h1))]; exact this
theorem CsAt.below (h : CsAt N w cb c a wb) (hb : Below w.heap.size w w') : CsAt N w' cb c a wb := h.same hb.size fun k h1 _ => hb.block k h1
theorem CsAt.kp {S : Nat → Prop} (h : CsAt N w cb c a wb) (hk : Kp S w w') (hS : ∀ k, S k → ¬ CFoot c a cb wb k) : CsAt N w' cb c a wb := h.same hk.size fun k h1 h2 => hk.block k h1 (fun hs => hS k hs h2)
theorem CsAt.cells (h : CsAt N w cb c a wb) : ∃ wv, wv = wtV (wb.bind fun b => c.wait.map fun q => (b, q)) ∧ w.cell? ⟨cb, 0, none⟩ = some (ptr a.sb) ∧ w.cell? ⟨cb, 1, none⟩ = some (.int .u32 c.num) ∧ w.cell? ⟨cb, 2, none⟩ = some (.int .i64 c.len) ∧ w.cell? ⟨cb, 3, none⟩ = some (.int .u32 c.hash) ∧ w.cell? ⟨cb, 4, none⟩ = some wv ∧ ∀ o, w.frozen? ⟨cb, o, none⟩ = false := by
  refine ⟨_, rfl, ?_, ?_, ?_, ?_, ?_, fun o => ?_⟩ <;> simp [World.cell?, World.frozen?, h.blk]
theorem wtV_none (h : c.wait = none) : wtV (wb.bind fun b => c.wait.map fun q => (b, q)) = .pointer none := by
  rw [h]; cases wb <;> rfl
theorem wtV_some {q : Dsr.Wt} (hs : wb.isSome = c.wait.isSome) (h : c.wait = some q) : ∃ b, wb = some b ∧ wtV (wb.bind fun b => c.wait.map fun q => (b, q)) = ptr b := by
  rw [h] at hs
  obtain ⟨b, hb⟩ := Option.isSome_iff_exists.1 hs
  exact ⟨b, hb, by rw [hb, h]; rfl⟩
set_option maxRecDepth 100000 in
set_option maxHeartbeats 1600000 in
theorem head_any (h : CsAt N w cb c a wb) : Calls Tryz.prog 34 #[ptr cb] w fun x w' => x = .returned (.int .u32 c.hash) ∧ Below w.heap.size w w' := by
  obtain ⟨wv, -, c0, c1, c2, c3, c4, cf⟩ := h.cells
  have hl := h.lt
  clear h
  go_enter Tryz.func34, Tryz.ntmps34
  go_wp2_with fail
  go_ret
  exact ⟨rfl, Below.refl _ _⟩
set_option maxRecDepth 100000 in
set_option maxHeartbeats 1600000 in
theorem mark_any (h : CsAt N w cb c a wb) (n : List UInt8) : Calls Tryz.prog 23 #[ptr cb, strV n] w fun x w' => x = .returned (.tuple #[markOf (Dsr.findE c.es n), .int .i64 (markE (Dsr.findE c.es n))]) ∧ Below w.heap.size w w' := by
  obtain ⟨wv, -, c0, c1, c2, c3, c4, cf⟩ := h.cells
  have hl := h.lt
  have H : Hid (CsAt N w cb c a wb) := h
  clear h
  go_enter Tryz.func23, Tryz.ntmps23
  go_wp2_with fail
  refine (stMark_any (H.out.st.alloc _) H.out.ok.g n).mono ?_
  rintro x w1 ⟨rfl, b1⟩
  have p1 : w1.heap[w.heap.size]? = some (.cells #[.bool false, .bool false, .bool false] 48 (0, 0)) := (b1.block _ (by simp)).trans (heap_alloc_new _ _)
  have hwl : w.heap.size < w1.heap.size := (Array.getElem?_eq_some_iff.1 p1).1
  obtain ⟨m0, m1, m2, mf⟩ := cells3S p1
  have HB : Hid (Below w.heap.size w w1) := below_alloc b1
  clear b1 p1
  rcases hf : Dsr.findE c.es n with _ | e
  · have HF : Hid (Dsr.findE c.es n = none) := hf
    have e1 : markOf (none : Option Dsr.Ev) = markV false false false := rfl
    have e2 : (none : Option Dsr.Ev).isSome = false := rfl
    rw [e1, e2]
    clear e1 e2 hf
    go_wp2_with fail
    refine bodyPost_ret (v := .tuple #[markV false false false, .int .i64 4]) (by simp [results, Tryz.results23, go_sem, m0, m1, m2, mf, hwl]) rfl ⟨by rw [HF.out]; rfl, ?_⟩
    repeat (first | exact HB.out | refine Below.setCell ?_ (by simp) _ | refine Below.drew ?_ | refine Below.alloc ?_ (by simp; omega) _)
  · have HF : Hid (Dsr.findE c.es n = some e) := hf
    have e1 : markOf (some e) = markV e.done e.inn e.due := rfl
    have e2 : (some e).isSome = true := rfl
    rw [e1, e2]
    clear e1 e2 hf
    go_wp2_with fail
    refine bodyPost_ret (v := .tuple #[markV e.done e.inn e.due, .int .i64 0]) (by simp [results, Tryz.results23, go_sem, m0, m1, m2, mf, hwl]) rfl ⟨by rw [HF.out]; rfl, ?_⟩
    repeat (first | exact HB.out | refine Below.setCell ?_ (by simp) _ | refine Below.drew ?_ | refine Below.alloc ?_ (by simp; omega) _)
end
end Go.Proofs.YtjmcokcdaddpcaaGreatDoor
set_option linter.unusedVariables false
set_option linter.unusedSimpArgs false
namespace Go.Proofs.YtjmcokcdaddpcaaGreatDoor
open Go.RowKit
section
variable {N : Nat} {w : World} {es : List Dsr.Ev} {rs : List Dsr.Rl} {a : SA}
def wantedE (e : Dsr.Ev) : Bool := e.inn && e.due
set_option maxRecDepth 100000 in
set_option maxHeartbeats 1600000 in
theorem ifEv_any (h : StAt N w es rs a) (hl : es.length ≤ 1000) :
    Calls Tryz.prog 136 #[a.ve, .func (.func 94) #[] #[]] w fun x w' => (∃ i : Int, x = .returned (.int .i64 i) ∧ decide (0 ≤ i) = es.any wantedE) ∧ Below w.heap.size w w' := by
  obtain ⟨ae, ce, ar, cr, hve, hvr⟩ := h.shapes
  have H : Hid (StAt N w es rs a ∧ a.ve = .slice ae es.length ce) := ⟨h, hve⟩
  have hz : (es.length : Int) ≤ 1000 := by omega
  rw [hve]
  clear h hve hvr
  go_enter Tryz.func136, Tryz.ntmps136
  go_wp2_with fail
  go_loopg [8] es.length (fun k i wr => ∃ m : Nat, i = .int .i64 m ∧ m + k = es.length ∧ (es.take m).any wantedE = false ∧ Below w.heap.size w wr)
  case atStart => exact ⟨0, rfl, by omega, rfl, Below.refl _ _⟩
  case round =>
    obtain ⟨m, rfl, hm, ha, hb⟩ := hrel
    by_cases hlt : m < es.length
    · obtain ⟨e, he⟩ : ∃ e, es[m]? = some e := ⟨_, List.getElem?_eq_getElem hlt⟩
      obtain ⟨g, b, v, rfl, h1, h2, hb1, hv1, d0, hbl, hbk⟩ := (H.out.1.below hb).evAt H.out.2 he
      have HH : Hid (es[m]? = some e ∧ (es.take m).any wantedE = false ∧ Below w.heap.size w wr ∧ wr.heap[b]? = some (evB e v)) := ⟨he, ha, hb, hbk⟩
      have hzr := hb.size
      clear hb ha he hb1 hv1 hbk
      rcases hp : wantedE e with _ | _
      · have HP : Hid (wantedE e = false) := hp
        clear hp
        go_wp2_with fail
        refine (evWanted_any HH.out.2.2.2).mono ?_
        rintro x w1 ⟨rfl, hb1⟩
        have e1 : (e.inn && e.due) = false := HP.out
        rw [e1]
        have HB : Hid (Below w.heap.size w w1) := HH.out.2.2.1.trans (hb1.mono hzr)
        clear hb1 e1
        go_wp2_with fail
        go_roundg (es.length - (m + 1))
        case measure => omega
        case rel => exact ⟨m + 1, by go_num, by omega, by rw [any_snoc _ _ _ _ HH.out.1, HH.out.2.1, HP.out]; rfl, HB.out⟩
      · have HP : Hid (wantedE e = true) := hp
        clear hp
        go_wp2_with fail
        refine (evWanted_any HH.out.2.2.2).mono ?_
        rintro x w1 ⟨rfl, hb1⟩
        have e1 : (e.inn && e.due) = true := HP.out
        rw [e1]
        have HB : Hid (Below w.heap.size w w1) := HH.out.2.2.1.trans (hb1.mono hzr)
        clear hb1 e1
        go_wp2_with fail
        go_ret
        exact ⟨⟨m, rfl, by rw [any_here _ _ _ _ HH.out.1 HP.out]; simp⟩, HB.out⟩
    · have HH : Hid ((es.take m).any wantedE = false ∧ Below w.heap.size w wr) := ⟨ha, hb⟩
      clear ha hb
      go_wp2_with fail
      go_ret
      exact ⟨⟨-1, rfl, by have e := HH.out.1; rw [List.take_of_length_le (by omega)] at e; rw [e]; rfl⟩, HH.out.2⟩
set_option maxRecDepth 100000 in
set_option maxHeartbeats 1600000 in
theorem cfEv_any (h : StAt N w es rs a) (hl : es.length ≤ 1000) :
    Calls Tryz.prog 93 #[a.ve, .func (.func 94) #[] #[]] w fun x w' => x = .returned (.bool (es.any wantedE)) ∧ Below w.heap.size w w' := by
  obtain ⟨ae, ce, ar, cr, hve, hvr⟩ := h.shapes
  have L := ifEv_any h hl
  rw [hve] at L ⊢
  have HL : Hid (Calls Tryz.prog 136 #[.slice ae es.length ce, .func (.func 94) #[] #[]] w fun x w' => (∃ i : Int, x = .returned (.int .i64 i) ∧ decide (0 ≤ i) = es.any wantedE) ∧ Below w.heap.size w w') := L
  clear L h hve hvr
  go_enter Tryz.func93, Tryz.ntmps93
  go_wp2_with fail
  refine HL.out.mono ?_
  rintro e w1 ⟨⟨i, rfl, hi⟩, hb⟩
  have HB : Hid (Below w.heap.size w w1 ∧ decide (0 ≤ i) = es.any wantedE) := ⟨hb, hi⟩
  clear hb hi
  go_wp2_with fail
  go_ret
  exact ⟨ret_bool (by rw [← HB.out.2]), HB.out.1⟩
set_option maxRecDepth 100000 in
set_option maxHeartbeats 1600000 in
theorem stAccepting_any (h : StAt N w es rs a) (hl : es.length ≤ 1000) :
    Calls Tryz.prog 60 #[ptr a.sb] w fun x w' => x = .returned (.bool (Dsr.acceptingP es)) ∧ Below w.heap.size w w' := by
  obtain ⟨ae, ce, ar, cr, hve, hvr⟩ := h.shapes
  have hblk := h.blk
  have hsb := h.sbLt.2
  have L := cfEv_any h hl
  rw [hve] at L
  rw [hve, hvr] at hblk
  obtain ⟨c0, c1, fz⟩ := cells2 hblk
  have HL : Hid (Calls Tryz.prog 93 #[.slice ae es.length ce, .func (.func 94) #[] #[]] w fun x w' => x = .returned (.bool (es.any wantedE)) ∧ Below w.heap.size w w') := L
  clear L h hve hvr hblk
  go_enter Tryz.func60, Tryz.ntmps60
  go_wp2_with fail
  refine HL.out.mono ?_
  rintro e w1 ⟨rfl, hb⟩
  have HB : Hid (Below w.heap.size w w1) := hb
  clear hb
  go_wp2_with fail
  go_ret
  exact ⟨rfl, HB.out⟩
end
section
variable {N : Nat} {w w' : World} {cb : Nat} {c : Dsr.Cs} {a : SA} {wb : Option Nat}
set_option maxRecDepth 100000 in
set_option maxHeartbeats 1600000 in
theorem accepting_any (h : CsAt N w cb c a wb) : Calls Tryz.prog 26 #[ptr cb] w fun x w' => x = .returned (.bool (Dsr.acceptingP c.es)) ∧ Below w.heap.size w w' := by
  obtain ⟨wv, -, c0, c1, c2, c3, c4, cf⟩ := h.cells
  have hl := h.lt
  have H : Hid (CsAt N w cb c a wb) := h
  clear h
  go_enter Tryz.func26, Tryz.ntmps26
  go_wp2_with fail
  refine (stAccepting_any H.out.st H.out.ok.g.esl).mono ?_
  rintro x w1 ⟨rfl, hb⟩
  have HB : Hid (Below w.heap.size w w1) := hb
  clear hb
  go_wp2_with fail
  go_ret
  exact ⟨rfl, HB.out⟩
end
end Go.Proofs.YtjmcokcdaddpcaaGreatDoor
set_option linter.unusedVariables false
set_option linter.unusedSimpArgs false
namespace Go.Proofs.YtjmcokcdaddpcaaGreatDoor
open Go.RowKit
theorem foot_iff {es : List Dsr.Ev} {rs : List Dsr.Rl} {a : SA} {k : Nat} : Foot es rs a k ↔ (k = a.sb ∨ k ∈ a.eb ∨ a.ve.ownBlock = some k ∨ a.vr.ownBlock = some k ∨ ∃ v ∈ a.rv, v.ownBlock = some k) := by
  unfold Foot Owns stRows
  simp [or_assoc]
theorem GOk.doP {es : List Dsr.Ev} {rs : List Dsr.Rl} (h : GOk es rs) (n : List UInt8) : GOk (Dsr.doP rs n es) rs :=
  GOk.fold n 2 rs _ (GOk.fold n 3 rs _ (GOk.fold n 4 rs _ (h.modN Dsr.finish (fun _ => rfl) (fun _ => rfl) n)))
theorem nms_doP (rs : List Dsr.Rl) (n : List UInt8) (es : List Dsr.Ev) : nms (Dsr.doP rs n es) = nms es := by
  unfold Dsr.doP Dsr.follow
  rw [nms_follow, nms_follow, nms_follow, nms_modN Dsr.finish (fun _ => rfl)]
section
variable {N : Nat} {w w' : World} {cb : Nat} {c : Dsr.Cs} {a : SA} {wb : Option Nat}
theorem wtB_cells {b : Nat} {q : Dsr.Wt} (h : w.heap[b]? = some (wtB q)) : w.cell? ⟨b, 0, none⟩ = some (strV q.ev) ∧ w.cell? ⟨b, 1, none⟩ = some (.int .u8 q.verdict) ∧ w.cell? ⟨b, 2, none⟩ = some (.int .u32 q.num) ∧ w.cell? ⟨b, 3, none⟩ = some (.int .i64 q.len) ∧ w.cell? ⟨b, 4, none⟩ = some (.int .u32 q.hash) ∧ ∀ o, w.frozen? ⟨b, o, none⟩ = false := by
  refine ⟨?_, ?_, ?_, ?_, ?_, fun o => ?_⟩ <;> simp [World.cell?, World.frozen?, h]
/-- The case with its log's end turned, and nothing that waits. -/
theorem CsAt.settled {q : Dsr.Wt} {es' : List Dsr.Ev} (h : CsAt N w cb c a wb) (hq : c.wait = some q) (hst : StAt N w' es' c.rs a) (hg : GOk es' c.rs) (hblk : w'.heap[cb]? = some (.cells #[ptr a.sb, .int .u32 q.num, .int .i64 q.len, .int .u32 q.hash, .pointer none] 119 (0, 0))) :
    CsAt N w' cb { c with es := es', num := q.num, len := q.len, hash := q.hash, wait := none } a none := by
  have hw := h.ok.wait q hq
  refine ⟨hst, hblk, rfl, (fun b q h1 h2 => by cases h1), h.cbN, ⟨fun hf => h.far.1 (foot_iff.2 (foot_iff.1 hf)), fun b hb => by cases hb⟩, ⟨hg, hw.1, hw.2.1, hw.2.2.1, fun q h => by cases h⟩⟩
set_option maxRecDepth 100000 in
set_option maxHeartbeats 1600000 in
theorem settle_any (h : CsAt N w cb c a wb) : Calls Tryz.prog 25 #[ptr cb] w fun x w' => x = .returned (.int .i64 ((Dsr.settleP c).1 : Nat)) ∧ CsAt N w' cb (Dsr.settleP c).2 a none ∧ Kp (fun k => k = cb ∨ k ∈ a.eb) w w' := by
  have hl := h.lt
  have H : Hid (CsAt N w cb c a wb) := h
  rcases hw : c.wait with _ | q
  · obtain ⟨wv, hwv, c0, c1, c2, c3, c4, cf⟩ := h.cells
    rw [wtV_none hw] at hwv
    subst hwv
    have hwb : wb = none := by
      have := h.wsome
      rw [hw] at this
      cases wb <;> simp_all
    have HE : Hid (Dsr.settleP c = (6, c) ∧ CsAt N w cb c a none) := ⟨by unfold Dsr.settleP; rw [hw], by rw [← hwb]; exact h⟩
    clear h hw
    go_enter Tryz.func25, Tryz.ntmps25
    go_wp2_with fail
    go_ret
    rw [HE.out.1]
    exact ⟨rfl, HE.out.2, Kp.refl _ _⟩
  · obtain ⟨wv, hwv, c0, c1, c2, c3, c4, cf⟩ := h.cells
    obtain ⟨b, hb, hwb⟩ := wtV_some h.wsome hw
    rw [hwb] at hwv
    subst hwv
    have hwt := h.wt b q hb hw
    obtain ⟨d0, d1, d2, d3, d4, df⟩ := wtB_cells hwt
    have hbl : b < w.heap.size := (Array.getElem?_eq_some_iff.1 hwt).1
    have hbc : ¬ b = cb := (h.far.2 b hb).2
    have hcb : ¬ cb = b := fun e => hbc e.symm
    have hv4 := (h.ok.wait q hw).2.2.2.1
    have HW : Hid (c.wait = some q ∧ wb = some b) := ⟨hw, hb⟩
    have HP : Hid (Dsr.settleP c = (0, { c with es := if q.verdict = 0 then Dsr.doP c.rs q.ev c.es else c.es, num := q.num, len := q.len, hash := q.hash, wait := none })) := by show _ = _; unfold Dsr.settleP; rw [hw]
    have hnf : ∀ k, k = cb → ¬ Foot c.es c.rs a k := fun k hk => by rw [hk]; exact h.far.1
    have K3 : ∀ x y z : Value, Kp (fun k => k = cb) w (((w.setCell ⟨cb, 1, none⟩ x).setCell ⟨cb, 2, none⟩ y).setCell ⟨cb, 3, none⟩ z) := fun x y z => (((Kp.refl (fun k => k = cb) w).setCell (a := ⟨cb, 1, none⟩) (.inl rfl) _).setCell (a := ⟨cb, 2, none⟩) (.inl rfl) _).setCell (a := ⟨cb, 3, none⟩) (.inl rfl) _
    have HS : Hid (∀ x y z : Value, StAt N (((w.setCell ⟨cb, 1, none⟩ x).setCell ⟨cb, 2, none⟩ y).setCell ⟨cb, 3, none⟩ z) c.es c.rs a ∧ (((w.setCell ⟨cb, 1, none⟩ x).setCell ⟨cb, 2, none⟩ y).setCell ⟨cb, 3, none⟩ z).heap[cb]? = some (.cells #[ptr a.sb, x, y, z, ptr b] 119 (0, 0)) ∧ Kp (fun k => k = cb) w (((w.setCell ⟨cb, 1, none⟩ x).setCell ⟨cb, 2, none⟩ y).setCell ⟨cb, 3, none⟩ z)) := fun x y z => by
      refine ⟨h.st.kp (K3 x y z) hnf, ?_, K3 x y z⟩
      have e0 := h.blk
      rw [hwb] at e0
      rw [blk_set (blk_set (blk_set e0 1 x) 2 y) 3 z]
      simp
    clear h hw hwt hb hwb K3 hnf
    rcases hv : q.verdict with _ | k
    · have HV : Hid (q.verdict = 0) := hv
      rw [hv] at d1
      clear hv
      have hce : cb ∉ a.eb := fun hm => H.out.far.1 (foot_iff.2 (.inr (.inl hm)))
      have HS1 : Hid (StAt N (((w.setCell ⟨cb, 1, none⟩ (.int .u32 q.num)).setCell ⟨cb, 2, none⟩ (.int .i64 q.len)).setCell ⟨cb, 3, none⟩ (.int .u32 q.hash)) c.es c.rs a ∧ (((w.setCell ⟨cb, 1, none⟩ (.int .u32 q.num)).setCell ⟨cb, 2, none⟩ (.int .i64 q.len)).setCell ⟨cb, 3, none⟩ (.int .u32 q.hash)).heap[cb]? = some (.cells #[ptr a.sb, .int .u32 q.num, .int .i64 q.len, .int .u32 q.hash, ptr b] 119 (0, 0)) ∧ Kp (fun k => k = cb) w (((w.setCell ⟨cb, 1, none⟩ (.int .u32 q.num)).setCell ⟨cb, 2, none⟩ (.int .i64 q.len)).setCell ⟨cb, 3, none⟩ (.int .u32 q.hash))) := HS.out (.int .u32 q.num) (.int .i64 q.len) (.int .u32 q.hash)
      have HD : Hid (Calls Tryz.prog 59 #[ptr a.sb, strV q.ev] (((w.setCell ⟨cb, 1, none⟩ (.int .u32 q.num)).setCell ⟨cb, 2, none⟩ (.int .i64 q.len)).setCell ⟨cb, 3, none⟩ (.int .u32 q.hash)).drew fun x w' => x = .returned (.tuple #[]) ∧ StAt N w' (Dsr.doP c.rs q.ev c.es) c.rs a ∧ Kp (· ∈ a.eb) (((w.setCell ⟨cb, 1, none⟩ (.int .u32 q.num)).setCell ⟨cb, 2, none⟩ (.int .i64 q.len)).setCell ⟨cb, 3, none⟩ (.int .u32 q.hash)).drew w') := do_any HS1.out.1.drew H.out.ok.g ((H.out.ok.wait q HW.out.1).2.2.2.2 HV.out)
      go_enter Tryz.func25, Tryz.ntmps25
      go_wp2_with fail
      go_region_with (go_at_call 59; refine HD.out.mono ?_; rintro x w2 ⟨rfl, S2, k2⟩)
      all_goals
        have b2 : w2.heap[cb]? = some (.cells #[ptr a.sb, .int .u32 q.num, .int .i64 q.len, .int .u32 q.hash, ptr b] 119 (0, 0)) := (k2.block cb (Array.getElem?_eq_some_iff.1 HS1.out.2.1).1 hce).trans HS1.out.2.1
        have f2 : w2.frozen? ⟨cb, 4, none⟩ = false := by simp [World.frozen?, b2]
        have g4 : w2.cell? ⟨cb, 4, none⟩ = some (ptr b) := by simp [World.cell?, b2]
        have hl2 : cb < w2.heap.size := (Array.getElem?_eq_some_iff.1 b2).1
        have H2 : Hid (StAt N w2 (Dsr.doP c.rs q.ev c.es) c.rs a ∧ w2.heap[cb]? = some (.cells #[ptr a.sb, .int .u32 q.num, .int .i64 q.len, .int .u32 q.hash, ptr b] 119 (0, 0)) ∧ Kp (fun k => k = cb ∨ k ∈ a.eb) w w2) := ⟨S2, b2, ((HS1.out.2.2.mono (fun k hk => .inl (.inl hk))).drew).trans k2 (fun k hk => .inl (.inr hk))⟩
        clear S2 k2 b2
        go_wp2_with fail
        go_ret
        rw [HP.out, if_pos HV.out]
        refine ⟨rfl, H.out.settled HW.out.1 (H2.out.1.kp (S := fun k => k = cb) ((Kp.refl (fun k => k = cb) _).setCell (a := ⟨cb, 4, none⟩) (.inl rfl) _) (fun k hk hf => H.out.far.1 (by rw [hk] at hf; exact foot_iff.2 (foot_iff.1 hf)))) (H.out.ok.g.doP q.ev) (by rw [blk_set H2.out.2.1]; simp), H2.out.2.2.setCell (a := ⟨cb, 4, none⟩) (.inl (.inl rfl)) _⟩
    · have HV : Hid (¬ q.verdict = 0) := by show ¬ _; omega
      rw [hv] at d1
      have hk1 : (((k + 1 : Nat) : Int) == 0) = false := by simp; omega
      clear hv
      go_enter Tryz.func25, Tryz.ntmps25
      go_wp2_with fail
      go_ret
      have S1 := HS.out (.int .u32 q.num) (.int .i64 q.len) (.int .u32 q.hash)
      rw [HP.out, if_neg HV.out]
      refine ⟨rfl, H.out.settled HW.out.1 (S1.1.kp (S := fun k => k = cb) ((Kp.refl (fun k => k = cb) _).setCell (a := ⟨cb, 4, none⟩) (.inl rfl) _) (fun k hk hf => H.out.far.1 (by rw [hk] at hf; exact hf))) H.out.ok.g (by rw [blk_set S1.2.1]; simp), (S1.2.2.mono (fun k hk => .inl (.inl hk))).setCell (a := ⟨cb, 4, none⟩) (.inl (.inl rfl)) _⟩
end
end Go.Proofs.YtjmcokcdaddpcaaGreatDoor
set_option linter.unusedVariables false
set_option linter.unusedSimpArgs false
namespace Go.Proofs.YtjmcokcdaddpcaaGreatDoor
open Go.RowKit
/-- What an Ask leaves. -/
structure AskS (N : Nat) (w w' : World) (cb : Nat) (c' : Dsr.Cs) (a : SA) (wb : Option Nat) (v : Value) (bs : List UInt8) : Prop where
  cs : ∃ wb', CsAt N w' cb c' a wb' ∧ ∀ k, wb' = some k → wb = some k ∨ w.heap.size ≤ k
  own : BOwn w.heap.size w' v bs
  apart : ∀ k, v.ownBlock = some k → ∀ wb', CsAt N w' cb c' a wb' → wb' ≠ some k
  kp : Kp (fun k => k = cb) w w'
section
variable {N : Nat} {w w' : World} {cb : Nat} {c : Dsr.Cs} {a : SA} {wb : Option Nat}
theorem askS_same (h : CsAt N w cb c a wb) : AskS N w w cb c a wb (.slice none 0 0) [] :=
  ⟨⟨wb, h, fun k hk => .inl hk⟩, ⟨rfl, .inl ⟨rfl, rfl⟩⟩, (fun k hk => by cases hk), Kp.refl _ _⟩
theorem ask_idle {w2 : World} (h : CsAt N w cb c a wb) (h2 : CsAt N w2 cb c a wb) (hb : Below w.heap.size w w2) (o : Obj) : AskS N w (w2.alloc o) cb c a wb (.slice none 0 0) [] :=
  ⟨⟨wb, h2.below ((Below.refl _ _).alloc (Nat.le_refl _) _), fun k hk => .inl hk⟩, ⟨rfl, .inl ⟨rfl, rfl⟩⟩, (fun k hk => by cases hk), ((Kp.refl _ _).ofBelow hb).alloc o⟩
theorem after_clone {w2 w3 : World} {x y z : Value} (h2 : CsAt N w2 cb c a wb) (b3 : Below (w2.alloc (.cells #[x, y, z] 112)).drew.heap.size (w2.alloc (.cells #[x, y, z] 112)).drew w3) :
    Hid (CsAt N w3 cb c a wb ∧ Below w2.heap.size w2 w3) ∧ w3.cell? ⟨w2.heap.size, 0, none⟩ = some x ∧ w3.cell? ⟨w2.heap.size, 1, none⟩ = some y ∧ w3.cell? ⟨w2.heap.size, 2, none⟩ = some z ∧ w2.heap.size < w3.heap.size ∧ w3.cell? ⟨cb, 4, none⟩ = some (wtV (wb.bind fun b => c.wait.map fun q => (b, q))) ∧ w3.frozen? ⟨cb, 4, none⟩ = false ∧ cb < w3.heap.size := by
  have hb : Below w2.heap.size w2 w3 := ((Below.refl _ _).alloc (Nat.le_refl _) _).drew.trans (b3.mono (by simp))
  have h3 := h2.below hb
  have p3 : w3.heap[w2.heap.size]? = some (.cells #[x, y, z] 112 (0, 0)) := (b3.block _ (by simp)).trans (heap_alloc_new _ _)
  obtain ⟨z0, z1, z2, _⟩ := cells3L p3
  obtain ⟨wv, hwv, _, _, _, _, c4, cf⟩ := h3.cells
  exact ⟨⟨h3, hb⟩, z0, z1, z2, (Array.getElem?_eq_some_iff.1 p3).1, by rw [← hwv]; exact c4, cf 4, h3.lt⟩
theorem CsAt.asked {q : Dsr.Wt} (h : CsAt N w cb c a wb) (hw : c.wait = none) (hq : 16 * q.num ≤ q.len ∧ q.len ≤ 2000 ∧ q.hash < 4294967296 ∧ q.verdict ≤ 4 ∧ (q.verdict = 0 → q.ev ∈ nms c.es)) :
    CsAt N ((w.alloc (.cells #[strV q.ev, .int .u8 q.verdict, .int .u32 q.num, .int .i64 q.len, .int .u32 q.hash] 126)).setCell ⟨cb, 4, none⟩ (ptr w.heap.size)) cb { c with wait := some q } a (some w.heap.size) := by
  have hcl := h.lt
  have hA := h.below ((Below.refl _ _).alloc (Nat.le_refl _) (.cells #[strV q.ev, .int .u8 q.verdict, .int .u32 q.num, .int .i64 q.len, .int .u32 q.hash] 126))
  have hfl : ∀ k, Foot c.es c.rs a k → k < w.heap.size := fun k hk => by
    rcases hk with hk | ⟨v, hv, hvb⟩
    · exact (h.st.rows.lt hk).2
    · obtain ⟨i, e, he, hvi⟩ := h.st.rvAt hv
      obtain ⟨⟨B', ho⟩, hl⟩ := h.st.rol i e v he hvi
      exact (ho.lt k hvb).2
  have hK : Kp (fun k => k = cb) (w.alloc (.cells #[strV q.ev, .int .u8 q.verdict, .int .u32 q.num, .int .i64 q.len, .int .u32 q.hash] 126)) ((w.alloc (.cells #[strV q.ev, .int .u8 q.verdict, .int .u32 q.num, .int .i64 q.len, .int .u32 q.hash] 126)).setCell ⟨cb, 4, none⟩ (ptr w.heap.size)) := (Kp.refl (fun k => k = cb) _).setCell (a := ⟨cb, 4, none⟩) (.inl rfl) _
  refine ⟨hA.st.kp hK (fun k hk hf => h.far.1 (by rw [hk] at hf; exact hf)), ?_, rfl, ?_, h.cbN, ⟨h.far.1, ?_⟩, ⟨h.ok.g, h.ok.num, h.ok.len, h.ok.hash, ?_⟩⟩
  · rw [blk_set hA.blk]
    rfl
  · intro b q' hb hq'
    cases hb
    cases hq'
    rw [heap_setCell_other _ _ _ _ (by show w.heap.size ≠ cb; omega)]
    exact heap_alloc_new _ _
  · intro b hb
    cases hb
    exact ⟨fun hf => by have := hfl _ hf; omega, by omega⟩
  · intro q' hq'
    cases hq'
    exact hq
theorem ask_done {w1 w2 w3 : World} {role ev : List UInt8} {vd n : Nat} {sa : Option Addr} {sc : Nat} (h : CsAt N w cb c a wb) (hw : c.wait = none) (h2 : CsAt N w2 cb c a wb) (hb2 : Below w.heap.size w w2) (ho : BOwn w1.heap.size w2 (.slice sa n sc) (Dsr.sealed (Dsr.recP c role ev))) (h12 : w1.heap.size ≤ w2.heap.size) (h01 : w.heap.size ≤ w1.heap.size)
    (h3 : CsAt N w3 cb c a wb ∧ Below w2.heap.size w2 w3) (hrec : Dsr.recP c role ev = Dsr.recOf (c.num + 1) c.hash role ev vd) (hn : n = (Dsr.sealed (Dsr.recP c role ev)).length) (hf : c.len + n ≤ 2000) (hv : Dsr.verdictP c.es c.rs role ev = vd) (hv4 : vd ≤ 4) :
    AskS N w ((w3.alloc (.cells #[strV ev, .int .u8 vd, .int .u32 ((c.num : Int) + 1), .int .i64 ((c.len : Int) + n), .int .u32 (Dsr.hash (Dsr.recOf (c.num + 1) c.hash role ev vd) : Nat)] 126)).setCell ⟨cb, 4, none⟩ (ptr w3.heap.size)) cb { c with wait := some ⟨ev, vd, c.num + 1, c.len + n, Dsr.hash (Dsr.recP c role ev)⟩ } a wb (.slice sa n sc) (Dsr.sealed (Dsr.recP c role ev)) := by
  have hcl := h.lt
  have hs3 := h3.2.size
  have hs2 := hb2.size
  have hA : CsAt N ((w3.alloc (.cells #[strV ev, .int .u8 vd, .int .u32 ((c.num : Int) + 1), .int .i64 ((c.len : Int) + n), .int .u32 (Dsr.hash (Dsr.recOf (c.num + 1) c.hash role ev vd) : Nat)] 126)).setCell ⟨cb, 4, none⟩ (ptr w3.heap.size)) cb { c with wait := some ⟨ev, vd, c.num + 1, c.len + n, Dsr.hash (Dsr.recP c role ev)⟩ } a (some w3.heap.size) := by
    have hq : 16 * (c.num + 1) ≤ c.len + n ∧ c.len + n ≤ 2000 ∧ Dsr.hash (Dsr.recP c role ev) < 4294967296 ∧ vd ≤ 4 ∧ (vd = 0 → ev ∈ nms c.es) := by
      refine ⟨?_, hf, Dsr.hash_lt _, hv4, fun h0 => ?_⟩
      · have := h.ok.num
        rw [Dsr.sealed_len, hrec, Dsr.recOf_len] at hn
        omega
      · rw [h0] at hv
        unfold Dsr.verdictP at hv
        rcases hfe : Dsr.findE c.es ev with _ | e
        · rw [hfe] at hv; simp at hv
        · have := List.find?_some hfe
          exact List.mem_map.2 ⟨e, List.mem_of_find?_eq_some hfe, by simpa using this⟩
    rw [← hrec]
    obtain ⟨hh, hhh⟩ : ∃ hh, hh = Dsr.hash (Dsr.recP c role ev) := ⟨_, rfl⟩
    rw [← hhh] at hq ⊢
    have hA' := h3.1.asked (q := ⟨ev, vd, c.num + 1, c.len + n, hh⟩) hw hq
    dsimp only at hA'
    rw [show ((c.num + 1 : Nat) : Int) = (c.num : Int) + 1 by omega, show ((c.len + n : Nat) : Int) = (c.len : Int) + n by omega] at hA'
    exact hA'
  have hbl : ∀ k, (Value.slice sa n sc).ownBlock = some k → w1.heap.size ≤ k ∧ k < w2.heap.size := fun k hk => World.ownsRow.lt ho k hk
  refine ⟨⟨some w3.heap.size, hA, fun k hk => by cases hk; right; omega⟩, ?_, ?_, ?_⟩
  · refine Go.Joins.ownsRow_le (BOwn.block ho (fun k hk hv => ?_)) h01
    have := hbl k hv
    rw [heap_setCell_other _ _ _ _ (by show k ≠ cb; omega), Below.heap_alloc _ _ _ (by omega), h3.2.block k hk]
  · intro k hk wb' hw'
    have e1 := hw'.blk
    rw [hA.blk] at e1
    have := hbl k hk
    rcases hwb : wb' with _ | b'
    · exact fun h => by cases h
    · rw [hwb] at e1
      simp [wtV] at e1
      intro e
      cases e
      omega
  · exact (((Kp.refl _ w).ofBelow hb2).trans (((Kp.refl (fun k => k = cb) w2).ofBelow h3.2).alloc _) (fun k hk => .inl hk)).setCell (a := ⟨cb, 4, none⟩) (.inl rfl) _
set_option maxRecDepth 100000 in
set_option maxHeartbeats 1600000 in
theorem ask_any (h : CsAt N w cb c a wb) (role ev : List UInt8) : Calls Tryz.prog 24 #[ptr cb, strV role, strV ev] w fun x w' => ∃ sa n sc, x = .returned (.tuple #[.int .u8 ((Dsr.askP c role ev).1 : Nat), .slice sa n sc, .int .i64 ((Dsr.askP c role ev).2.2.1 : Nat)]) ∧ AskS N w w' cb (Dsr.askP c role ev).2.2.2 a wb (.slice sa n sc) (Dsr.askP c role ev).2.1 := by
  have hl := h.lt
  have H : Hid (CsAt N w cb c a wb) := h
  rcases hw : c.wait with _ | q
  · obtain ⟨wv, hwv, c0, c1, c2, c3, c4, cf⟩ := h.cells
    rw [wtV_none hw] at hwv
    subst hwv
    have HW : Hid (c.wait = none) := hw
    clear h hw
    by_cases hr : 8 < role.length
    · have HE : Hid (Dsr.askP c role ev = (0, [], 1, c)) := by show _ = _; unfold Dsr.askP; rw [HW.out]; simp [hr]
      have hrI : (8 : Int) < (role.length : Int) := by omega
      clear hr
      go_enter Tryz.func24, Tryz.ntmps24
      go_wp2_with fail
      go_ret3
      rw [HE.out]
      exact ⟨_, _, _, rfl, askS_same H.out⟩
    · by_cases he : 8 < ev.length
      · have HE : Hid (Dsr.askP c role ev = (0, [], 1, c)) := by show _ = _; unfold Dsr.askP; rw [HW.out]; simp [he]
        have hrI : (role.length : Int) ≤ 8 := by omega
        have heI : (8 : Int) < (ev.length : Int) := by omega
        clear hr he
        go_enter Tryz.func24, Tryz.ntmps24
        go_wp2_with fail
        go_ret3
        rw [HE.out]
        exact ⟨_, _, _, rfl, askS_same H.out⟩
      · have hrI : (role.length : Int) ≤ 8 := by omega
        have heI : (ev.length : Int) ≤ 8 := by omega
        have HV : Hid (Dsr.verdictP c.es c.rs role ev ≤ 4) := Dsr.verdictP_le _ _ _ _
        go_enter Tryz.func24, Tryz.ntmps24
        go_wp2_with fail
        refine (verdict_any H.out.st H.out.ok.g role ev).mono ?_
        rintro x w1 ⟨rfl, b1⟩
        have C1 := H.out.below b1
        have HB1 : Hid (CsAt N w1 cb c a wb ∧ Below w.heap.size w w1) := ⟨C1, b1⟩
        have hl1 := C1.lt
        clear c0 c1 c2 c3 c4 cf
        obtain ⟨wv, hwv, c0, c1, c2, c3, c4, cf⟩ := C1.cells
        rw [wtV_none HW.out] at hwv
        subst hwv
        clear C1 b1
        obtain ⟨vd, hvd⟩ : ∃ vd, Dsr.verdictP c.es c.rs role ev = vd := ⟨_, rfl⟩
        rw [hvd]
        have HVD : Hid (Dsr.verdictP c.es c.rs role ev = vd ∧ vd ≤ 4) := ⟨hvd, by rw [← hvd]; exact HV.out⟩
        have HOK : Hid (c.num + 1 < 4294967296 ∧ c.len ≤ 1000000 ∧ c.hash < 4294967296) := ⟨by have := H.out.ok.num; have := H.out.ok.len; omega, by have := H.out.ok.len; omega, H.out.ok.hash⟩
        have hlenI : (c.len : Int) ≤ 2000 := by have := H.out.ok.len; omega
        clear hvd HV
        go_wp2_with fail
        refine (recNext_any w1 c.num c.len c.hash role ev vd HOK.out.1 HOK.out.2.1 HOK.out.2.2 (by omega) (by omega) HVD.out.2).mono ?_
        rintro x w2 ⟨sa, n, sc, rfl, ho, b2⟩
        have C2 := HB1.out.1.below b2
        have hnl := ho.len
        have hl2 := C2.lt
        have HB2 : Hid (CsAt N w2 cb c a wb ∧ Below w.heap.size w w2 ∧ BOwn w1.heap.size w2 (.slice sa n sc) (Dsr.sealed (Dsr.recOf (c.num + 1) c.hash role ev vd)) ∧ w1.heap.size ≤ w2.heap.size ∧ w.heap.size ≤ w1.heap.size) := ⟨C2, HB1.out.2.trans (b2.mono HB1.out.2.size), ho, b2.size, HB1.out.2.size⟩
        clear c0 c1 c2 c3 c4 cf
        obtain ⟨wv, hwv, c0, c1, c2, c3, c4, cf⟩ := C2.cells
        rw [wtV_none HW.out] at hwv
        subst hwv
        have hn40 : (n : Int) ≤ 100 := by rw [hnl, Dsr.sealed_len, Dsr.recOf_len]; omega
        have HN : Hid (n = (Dsr.sealed (Dsr.recP c role ev)).length ∧ Dsr.recP c role ev = Dsr.recOf (c.num + 1) c.hash role ev vd) := ⟨by rw [hnl, Dsr.recP, HVD.out.1], by rw [Dsr.recP, HVD.out.1]⟩
        clear C2 b2 ho hnl HB1
        by_cases hf : 2000 < c.len + n
        · have HE : Hid (Dsr.askP c role ev = (0, [], 7, c)) := by
            show _ = _
            unfold Dsr.askP
            rw [HW.out]
            simp only [Option.isSome_none, Bool.false_eq_true, if_false]
            rw [if_neg (by omega), if_pos (by rw [← HN.out.1]; exact hf)]
          have hfI : (2000 : Int) < (c.len : Int) + (n : Int) := by omega
          clear hf
          go_wp2_with fail
          go_ret3
          rw [HE.out]
          exact ⟨_, _, _, rfl, ask_idle H.out HB2.out.1 HB2.out.2.1 _⟩
        · have HE : Hid (Dsr.askP c role ev = (vd, Dsr.sealed (Dsr.recP c role ev), 0, { c with wait := some ⟨ev, vd, c.num + 1, c.len + n, Dsr.hash (Dsr.recP c role ev)⟩ })) := by
            show _ = _
            unfold Dsr.askP
            rw [HW.out]
            simp only [Option.isSome_none, Bool.false_eq_true, if_false]
            rw [if_neg (by omega), if_neg (by rw [← HN.out.1]; exact hf), HVD.out.1, ← HN.out.1]
          have hfI : (c.len : Int) + (n : Int) ≤ 2000 := by omega
          have HF : Hid (c.len + n ≤ 2000) := by show _ ≤ _; omega
          clear hf
          have HCl : Hid (Calls Tryz.prog 58 #[strV ev] (w2.alloc (.cells #[.int .u32 ((c.num : Int) + 1), .int .i64 ((c.len : Int) + n), .int .u32 (Dsr.hash (Dsr.recOf (c.num + 1) c.hash role ev vd) : Nat)] 112)).drew fun x w' => x = .returned (strV ev) ∧ Below (w2.alloc (.cells #[.int .u32 ((c.num : Int) + 1), .int .i64 ((c.len : Int) + n), .int .u32 (Dsr.hash (Dsr.recOf (c.num + 1) c.hash role ev vd) : Nat)] 112)).drew.heap.size (w2.alloc (.cells #[.int .u32 ((c.num : Int) + 1), .int .i64 ((c.len : Int) + n), .int .u32 (Dsr.hash (Dsr.recOf (c.num + 1) c.hash role ev vd) : Nat)] 112)).drew w') := clone_any _ _ (by simp [ByteArray.size]; omega)
          go_wp2_with fail
          go_region_with (go_at_call 58; refine HCl.out.mono ?_; rintro x w3 ⟨rfl, b3⟩; obtain ⟨HK3, z0, z1, z2, zl, g4, gf, gl⟩ := after_clone HB2.out.1 b3; clear b3)
          all_goals
            go_wp2_with fail
            go_ret3
            rw [HE.out]
            refine ⟨_, _, _, rfl, ?_⟩
            have hD := ask_done H.out HW.out HB2.out.1 HB2.out.2.1 (by rw [HN.out.2]; exact HB2.out.2.2.1) HB2.out.2.2.2.1 HB2.out.2.2.2.2 HK3.out HN.out.2 HN.out.1 HF.out HVD.out.1 HVD.out.2
            rw [World.setCell_alloc_past _ _ _ _ HK3.out.1.lt] at hD
            exact hD
  · obtain ⟨wv, hwv, c0, c1, c2, c3, c4, cf⟩ := h.cells
    obtain ⟨b, hb, hwb⟩ := wtV_some h.wsome hw
    rw [hwb] at hwv
    subst hwv
    have HE : Hid (Dsr.askP c role ev = (0, [], 5, c)) := by show _ = _; unfold Dsr.askP; rw [hw]; rfl
    clear h hw hb hwb
    go_enter Tryz.func24, Tryz.ntmps24
    go_wp2_with fail
    go_ret3
    rw [HE.out]
    exact ⟨_, _, _, rfl, askS_same H.out⟩
end
end Go.Proofs.YtjmcokcdaddpcaaGreatDoor
