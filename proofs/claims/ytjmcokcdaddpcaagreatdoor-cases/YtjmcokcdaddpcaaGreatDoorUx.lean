import Derived.Test.YtjmcokcdaddpcaaGreatDoorUw
import Derived.Test.YtjmcokcdaddpcaaGreatDoorUt
import Derived.Test.YtjmcokcdaddpcaaGreatDoorUq
import Derived.Deep.RegionHeld
import Derived.Deep.RegionLaw
set_option linter.unusedVariables false
set_option linter.unusedSimpArgs false
namespace Go.Proofs.YtjmcokcdaddpcaaGreatDoor
open Go.RowKit
/-- What an Ask leaves. -/
structure AskS (N : Nat) (w w' : World) (cb : Nat) (c' : Dsr.Cs) (a : SA) (wb : Option Nat) (v : Value) (bs : List UInt8) : Prop where
  cs : ∃ wb', CsAt N w' cb c' a wb' ∧ ∀ k, wb' = some k → wb = some k ∨ w.heap.size ≤ k
  own : BOwn w.heap.size w' v bs
  apart : ∀ k, v.ownBlock = some k → ∀ wb', CsAt N w' cb c' a wb' → wb' ≠ some k
  kp : Kp (fun k => k = cb) w w'
section
variable {N : Nat} {w w' : World} {cb : Nat} {c : Dsr.Cs} {a : SA} {wb : Option Nat}
theorem askS_same (h : CsAt N w cb c a wb) : AskS N w w cb c a wb (.slice none 0 0) [] :=
  ⟨⟨wb, h, fun k hk => .inl hk⟩, ⟨rfl, .inl ⟨rfl, rfl⟩⟩, (fun k hk => by cases hk), Kp.refl _ _⟩
theorem ask_idle {w2 : World} (h : CsAt N w cb c a wb) (h2 : CsAt N w2 cb c a wb) (hb : Below w.heap.size w w2) (o : Obj) : AskS N w (w2.alloc o) cb c a wb (.slice none 0 0) [] :=
  ⟨⟨wb, h2.below ((Below.refl _ _).alloc (Nat.le_refl _) _), fun k hk => .inl hk⟩, ⟨rfl, .inl ⟨rfl, rfl⟩⟩, (fun k hk => by cases hk), ((Kp.refl _ _).ofBelow hb).alloc o⟩
theorem after_clone {w2 w3 : World} {x y z : Value} (h2 : CsAt N w2 cb c a wb) (b3 : Below (w2.alloc (.cells #[x, y, z] 112)).drew.heap.size (w2.alloc (.cells #[x, y, z] 112)).drew w3) :
    Hid (CsAt N w3 cb c a wb ∧ Below w2.heap.size w2 w3) ∧ w3.cell? ⟨w2.heap.size, 0, none⟩ = some x ∧ w3.cell? ⟨w2.heap.size, 1, none⟩ = some y ∧ w3.cell? ⟨w2.heap.size, 2, none⟩ = some z ∧ w2.heap.size < w3.heap.size ∧ w3.cell? ⟨cb, 4, none⟩ = some (wtV (wb.bind fun b => c.wait.map fun q => (b, q))) ∧ w3.frozen? ⟨cb, 4, none⟩ = false ∧ cb < w3.heap.size := by
  have hb : Below w2.heap.size w2 w3 := ((Below.refl _ _).alloc (Nat.le_refl _) _).drew.trans (b3.mono (by simp))
  have h3 := h2.below hb
  have p3 : w3.heap[w2.heap.size]? = some (.cells #[x, y, z] 112 (0, 0)) := (b3.block _ (by simp)).trans (heap_alloc_new _ _)
  obtain ⟨z0, z1, z2, _⟩ := cells3L p3
  obtain ⟨wv, hwv, _, _, _, _, c4, cf⟩ := h3.cells
  exact ⟨⟨h3, hb⟩, z0, z1, z2, (Array.getElem?_eq_some_iff.1 p3).1, by rw [← hwv]; exact c4, cf 4, h3.lt⟩
theorem CsAt.asked {q : Dsr.Wt} (h : CsAt N w cb c a wb) (hw : c.wait = none) (hq : 16 * q.num ≤ q.len ∧ q.len ≤ 2000 ∧ q.hash < 4294967296 ∧ q.verdict ≤ 4 ∧ (q.verdict = 0 → q.ev ∈ nms c.es)) :
    CsAt N ((w.alloc (.cells #[strV q.ev, .int .u8 q.verdict, .int .u32 q.num, .int .i64 q.len, .int .u32 q.hash] 126)).setCell ⟨cb, 4, none⟩ (ptr w.heap.size)) cb { c with wait := some q } a (some w.heap.size) := by
  have hcl := h.lt
  have hA := h.below ((Below.refl _ _).alloc (Nat.le_refl _) (.cells #[strV q.ev, .int .u8 q.verdict, .int .u32 q.num, .int .i64 q.len, .int .u32 q.hash] 126))
  have hfl : ∀ k, Foot c.es c.rs a k → k < w.heap.size := fun k hk => by
    rcases hk with hk | ⟨v, hv, hvb⟩
    · exact (h.st.rows.lt hk).2
    · obtain ⟨i, e, he, hvi⟩ := h.st.rvAt hv
      obtain ⟨⟨B', ho⟩, hl⟩ := h.st.rol i e v he hvi
      exact (ho.lt k hvb).2
  have hK : Kp (fun k => k = cb) (w.alloc (.cells #[strV q.ev, .int .u8 q.verdict, .int .u32 q.num, .int .i64 q.len, .int .u32 q.hash] 126)) ((w.alloc (.cells #[strV q.ev, .int .u8 q.verdict, .int .u32 q.num, .int .i64 q.len, .int .u32 q.hash] 126)).setCell ⟨cb, 4, none⟩ (ptr w.heap.size)) := (Kp.refl (fun k => k = cb) _).setCell (a := ⟨cb, 4, none⟩) (.inl rfl) _
  refine ⟨hA.st.kp hK (fun k hk hf => h.far.1 (by rw [hk] at hf; exact hf)), ?_, rfl, ?_, h.cbN, ⟨h.far.1, ?_⟩, ⟨h.ok.g, h.ok.num, h.ok.len, h.ok.hash, ?_⟩⟩
  · rw [blk_set hA.blk]
    rfl
  · intro b q' hb hq'
    cases hb
    cases hq'
    rw [heap_setCell_other _ _ _ _ (by show w.heap.size ≠ cb; omega)]
    exact heap_alloc_new _ _
  · intro b hb
    cases hb
    exact ⟨fun hf => by have := hfl _ hf; omega, by omega⟩
  · intro q' hq'
    cases hq'
    exact hq
theorem ask_done {w1 w2 w3 : World} {role ev : List UInt8} {vd n : Nat} {sa : Option Addr} {sc : Nat} (h : CsAt N w cb c a wb) (hw : c.wait = none) (h2 : CsAt N w2 cb c a wb) (hb2 : Below w.heap.size w w2) (ho : BOwn w1.heap.size w2 (.slice sa n sc) (Dsr.sealed (Dsr.recP c role ev))) (h12 : w1.heap.size ≤ w2.heap.size) (h01 : w.heap.size ≤ w1.heap.size)
    (h3 : CsAt N w3 cb c a wb ∧ Below w2.heap.size w2 w3) (hrec : Dsr.recP c role ev = Dsr.recOf (c.num + 1) c.hash role ev vd) (hn : n = (Dsr.sealed (Dsr.recP c role ev)).length) (hf : c.len + n ≤ 2000) (hv : Dsr.verdictP c.es c.rs role ev = vd) (hv4 : vd ≤ 4) :
    AskS N w ((w3.alloc (.cells #[strV ev, .int .u8 vd, .int .u32 ((c.num : Int) + 1), .int .i64 ((c.len : Int) + n), .int .u32 (Dsr.hash (Dsr.recOf (c.num + 1) c.hash role ev vd) : Nat)] 126)).setCell ⟨cb, 4, none⟩ (ptr w3.heap.size)) cb { c with wait := some ⟨ev, vd, c.num + 1, c.len + n, Dsr.hash (Dsr.recP c role ev)⟩ } a wb (.slice sa n sc) (Dsr.sealed (Dsr.recP c role ev)) := by
  have hcl := h.lt
  have hs3 := h3.2.size
  have hs2 := hb2.size
  have hA : CsAt N ((w3.alloc (.cells #[strV ev, .int .u8 vd, .int .u32 ((c.num : Int) + 1), .int .i64 ((c.len : Int) + n), .int .u32 (Dsr.hash (Dsr.recOf (c.num + 1) c.hash role ev vd) : Nat)] 126)).setCell ⟨cb, 4, none⟩ (ptr w3.heap.size)) cb { c with wait := some ⟨ev, vd, c.num + 1, c.len + n, Dsr.hash (Dsr.recP c role ev)⟩ } a (some w3.heap.size) := by
    have hq : 16 * (c.num + 1) ≤ c.len + n ∧ c.len + n ≤ 2000 ∧ Dsr.hash (Dsr.recP c role ev) < 4294967296 ∧ vd ≤ 4 ∧ (vd = 0 → ev ∈ nms c.es) := by
      refine ⟨?_, hf, Dsr.hash_lt _, hv4, fun h0 => ?_⟩
      · have := h.ok.num
        rw [Dsr.sealed_len, hrec, Dsr.recOf_len] at hn
        omega
      · rw [h0] at hv
        unfold Dsr.verdictP at hv
        rcases hfe : Dsr.findE c.es ev with _ | e
        · rw [hfe] at hv; simp at hv
        · have := List.find?_some hfe
          exact List.mem_map.2 ⟨e, List.mem_of_find?_eq_some hfe, by simpa using this⟩
    rw [← hrec]
    obtain ⟨hh, hhh⟩ : ∃ hh, hh = Dsr.hash (Dsr.recP c role ev) := ⟨_, rfl⟩
    rw [← hhh] at hq ⊢
    have hA' := h3.1.asked (q := ⟨ev, vd, c.num + 1, c.len + n, hh⟩) hw hq
    dsimp only at hA'
    rw [show ((c.num + 1 : Nat) : Int) = (c.num : Int) + 1 by omega, show ((c.len + n : Nat) : Int) = (c.len : Int) + n by omega] at hA'
    exact hA'
  have hbl : ∀ k, (Value.slice sa n sc).ownBlock = some k → w1.heap.size ≤ k ∧ k < w2.heap.size := fun k hk => World.ownsRow.lt ho k hk
  refine ⟨⟨some w3.heap.size, hA, fun k hk => by cases hk; right; omega⟩, ?_, ?_, ?_⟩
  · refine Go.Joins.ownsRow_le (BOwn.block ho (fun k hk hv => ?_)) h01
    have := hbl k hv
    rw [heap_setCell_other _ _ _ _ (by show k ≠ cb; omega), Below.heap_alloc _ _ _ (by omega), h3.2.block k hk]
  · intro k hk wb' hw'
    have e1 := hw'.blk
    rw [hA.blk] at e1
    have := hbl k hk
    rcases hwb : wb' with _ | b'
    · exact fun h => by cases h
    · rw [hwb] at e1
      simp [wtV] at e1
      intro e
      cases e
      omega
  · exact (((Kp.refl _ w).ofBelow hb2).trans (((Kp.refl (fun k => k = cb) w2).ofBelow h3.2).alloc _) (fun k hk => .inl hk)).setCell (a := ⟨cb, 4, none⟩) (.inl rfl) _
set_option maxRecDepth 100000 in
set_option maxHeartbeats 1600000 in
theorem ask_any (h : CsAt N w cb c a wb) (role ev : List UInt8) : Calls Tryz.prog 24 #[ptr cb, strV role, strV ev] w fun x w' => ∃ sa n sc, x = .returned (.tuple #[.int .u8 ((Dsr.askP c role ev).1 : Nat), .slice sa n sc, .int .i64 ((Dsr.askP c role ev).2.2.1 : Nat)]) ∧ AskS N w w' cb (Dsr.askP c role ev).2.2.2 a wb (.slice sa n sc) (Dsr.askP c role ev).2.1 := by
  have hl := h.lt
  have H : Hid (CsAt N w cb c a wb) := h
  rcases hw : c.wait with _ | q
  · obtain ⟨wv, hwv, c0, c1, c2, c3, c4, cf⟩ := h.cells
    rw [wtV_none hw] at hwv
    subst hwv
    have HW : Hid (c.wait = none) := hw
    clear h hw
    by_cases hr : 8 < role.length
    · have HE : Hid (Dsr.askP c role ev = (0, [], 1, c)) := by show _ = _; unfold Dsr.askP; rw [HW.out]; simp [hr]
      have hrI : (8 : Int) < (role.length : Int) := by omega
      clear hr
      go_enter Tryz.func24, Tryz.ntmps24
      go_wp2_with fail
      go_ret3
      rw [HE.out]
      exact ⟨_, _, _, rfl, askS_same H.out⟩
    · by_cases he : 8 < ev.length
      · have HE : Hid (Dsr.askP c role ev = (0, [], 1, c)) := by show _ = _; unfold Dsr.askP; rw [HW.out]; simp [he]
        have hrI : (role.length : Int) ≤ 8 := by omega
        have heI : (8 : Int) < (ev.length : Int) := by omega
        clear hr he
        go_enter Tryz.func24, Tryz.ntmps24
        go_wp2_with fail
        go_ret3
        rw [HE.out]
        exact ⟨_, _, _, rfl, askS_same H.out⟩
      · have hrI : (role.length : Int) ≤ 8 := by omega
        have heI : (ev.length : Int) ≤ 8 := by omega
        have HV : Hid (Dsr.verdictP c.es c.rs role ev ≤ 4) := Dsr.verdictP_le _ _ _ _
        go_enter Tryz.func24, Tryz.ntmps24
        go_wp2_with fail
        refine (verdict_any H.out.st H.out.ok.g role ev).mono ?_
        rintro x w1 ⟨rfl, b1⟩
        have C1 := H.out.below b1
        have HB1 : Hid (CsAt N w1 cb c a wb ∧ Below w.heap.size w w1) := ⟨C1, b1⟩
        have hl1 := C1.lt
        clear c0 c1 c2 c3 c4 cf
        obtain ⟨wv, hwv, c0, c1, c2, c3, c4, cf⟩ := C1.cells
        rw [wtV_none HW.out] at hwv
        subst hwv
        clear C1 b1
        obtain ⟨vd, hvd⟩ : ∃ vd, Dsr.verdictP c.es c.rs role ev = vd := ⟨_, rfl⟩
        rw [hvd]
        have HVD : Hid (Dsr.verdictP c.es c.rs role ev = vd ∧ vd ≤ 4) := ⟨hvd, by rw [← hvd]; exact HV.out⟩
        have HOK : Hid (c.num + 1 < 4294967296 ∧ c.len ≤ 1000000 ∧ c.hash < 4294967296) := ⟨by have := H.out.ok.num; have := H.out.ok.len; omega, by have := H.out.ok.len; omega, H.out.ok.hash⟩
        have hlenI : (c.len : Int) ≤ 2000 := by have := H.out.ok.len; omega
        clear hvd HV
        go_wp2_with fail
        refine (recNext_any w1 c.num c.len c.hash role ev vd HOK.out.1 HOK.out.2.1 HOK.out.2.2 (by omega) (by omega) HVD.out.2).mono ?_
        rintro x w2 ⟨sa, n, sc, rfl, ho, b2⟩
        have C2 := HB1.out.1.below b2
        have hnl := ho.len
        have hl2 := C2.lt
        have HB2 : Hid (CsAt N w2 cb c a wb ∧ Below w.heap.size w w2 ∧ BOwn w1.heap.size w2 (.slice sa n sc) (Dsr.sealed (Dsr.recOf (c.num + 1) c.hash role ev vd)) ∧ w1.heap.size ≤ w2.heap.size ∧ w.heap.size ≤ w1.heap.size) := ⟨C2, HB1.out.2.trans (b2.mono HB1.out.2.size), ho, b2.size, HB1.out.2.size⟩
        clear c0 c1 c2 c3 c4 cf
        obtain ⟨wv, hwv, c0, c1, c2, c3, c4, cf⟩ := C2.cells
        rw [wtV_none HW.out] at hwv
        subst hwv
        have hn40 : (n : Int) ≤ 100 := by rw [hnl, Dsr.sealed_len, Dsr.recOf_len]; omega
        have HN : Hid (n = (Dsr.sealed (Dsr.recP c role ev)).length ∧ Dsr.recP c role ev = Dsr.recOf (c.num + 1) c.hash role ev vd) := ⟨by rw [hnl, Dsr.recP, HVD.out.1], by rw [Dsr.recP, HVD.out.1]⟩
        clear C2 b2 ho hnl HB1
        by_cases hf : 2000 < c.len + n
        · have HE : Hid (Dsr.askP c role ev = (0, [], 7, c)) := by
            show _ = _
            unfold Dsr.askP
            rw [HW.out]
            simp only [Option.isSome_none, Bool.false_eq_true, if_false]
            rw [if_neg (by omega), if_pos (by rw [← HN.out.1]; exact hf)]
          have hfI : (2000 : Int) < (c.len : Int) + (n : Int) := by omega
          clear hf
          go_wp2_with fail
          go_ret3
          rw [HE.out]
          exact ⟨_, _, _, rfl, ask_idle H.out HB2.out.1 HB2.out.2.1 _⟩
        · have HE : Hid (Dsr.askP c role ev = (vd, Dsr.sealed (Dsr.recP c role ev), 0, { c with wait := some ⟨ev, vd, c.num + 1, c.len + n, Dsr.hash (Dsr.recP c role ev)⟩ })) := by
            show _ = _
            unfold Dsr.askP
            rw [HW.out]
            simp only [Option.isSome_none, Bool.false_eq_true, if_false]
            rw [if_neg (by omega), if_neg (by rw [← HN.out.1]; exact hf), HVD.out.1, ← HN.out.1]
          have hfI : (c.len : Int) + (n : Int) ≤ 2000 := by omega
          have HF : Hid (c.len + n ≤ 2000) := by show _ ≤ _; omega
          clear hf
          have HCl : Hid (Calls Tryz.prog 58 #[strV ev] (w2.alloc (.cells #[.int .u32 ((c.num : Int) + 1), .int .i64 ((c.len : Int) + n), .int .u32 (Dsr.hash (Dsr.recOf (c.num + 1) c.hash role ev vd) : Nat)] 112)).drew fun x w' => x = .returned (strV ev) ∧ Below (w2.alloc (.cells #[.int .u32 ((c.num : Int) + 1), .int .i64 ((c.len : Int) + n), .int .u32 (Dsr.hash (Dsr.recOf (c.num + 1) c.hash role ev vd) : Nat)] 112)).drew.heap.size (w2.alloc (.cells #[.int .u32 ((c.num : Int) + 1), .int .i64 ((c.len : Int) + n), .int .u32 (Dsr.hash (Dsr.recOf (c.num + 1) c.hash role ev vd) : Nat)] 112)).drew w') := clone_any _ _ (by simp [ByteArray.size]; omega)
          go_wp2_with fail
          go_region_with (go_at_call 58; refine HCl.out.mono ?_; rintro x w3 ⟨rfl, b3⟩; obtain ⟨HK3, z0, z1, z2, zl, g4, gf, gl⟩ := after_clone HB2.out.1 b3; clear b3)
          all_goals
            go_wp2_with fail
            go_ret3
            rw [HE.out]
            refine ⟨_, _, _, rfl, ?_⟩
            have hD := ask_done H.out HW.out HB2.out.1 HB2.out.2.1 (by rw [HN.out.2]; exact HB2.out.2.2.1) HB2.out.2.2.2.1 HB2.out.2.2.2.2 HK3.out HN.out.2 HN.out.1 HF.out HVD.out.1 HVD.out.2
            rw [World.setCell_alloc_past _ _ _ _ HK3.out.1.lt] at hD
            exact hD
  · obtain ⟨wv, hwv, c0, c1, c2, c3, c4, cf⟩ := h.cells
    obtain ⟨b, hb, hwb⟩ := wtV_some h.wsome hw
    rw [hwb] at hwv
    subst hwv
    have HE : Hid (Dsr.askP c role ev = (0, [], 5, c)) := by show _ = _; unfold Dsr.askP; rw [hw]; rfl
    clear h hw hb hwb
    go_enter Tryz.func24, Tryz.ntmps24
    go_wp2_with fail
    go_ret3
    rw [HE.out]
    exact ⟨_, _, _, rfl, askS_same H.out⟩
end
end Go.Proofs.YtjmcokcdaddpcaaGreatDoor
set_option linter.unusedVariables false
set_option linter.unusedSimpArgs false
namespace Go.Proofs.YtjmcokcdaddpcaaGreatDoor
open Go.RowKit
section
variable {B N : Nat} {w w' : World} {fs : List Nat} {rows : List Row} {es : List Dsr.Ev} {rs : List Dsr.Rl} {a : SA}
/-- A fixed block more. -/
theorem RowsOk.addF (h : RowsOk B w fs rows) {k : Nat} (hB : B ≤ k) (hk : k < w.heap.size) (hn : ¬ Owns fs rows k) : RowsOk B w (fs ++ [k]) rows := by
  refine ⟨h.own, ?_, fun f hf => ?_⟩
  · have hp := List.pairwise_append.1 h.apart
    rw [List.map_append, List.append_assoc]
    refine List.pairwise_append.2 ⟨hp.1, ?_, ?_⟩
    · simp only [List.map_cons, List.map_nil, List.cons_append, List.nil_append]
      refine List.pairwise_cons.2 ⟨fun y hy => ?_, hp.2.1⟩
      obtain ⟨r, hr, rfl⟩ := List.mem_map.1 hy
      exact .inr (fun e => hn (.inr ⟨r, hr, e.symm⟩))
    · intro x hx y hy
      rcases List.mem_append.1 hy with hy | hy
      · simp at hy
        subst hy
        obtain ⟨f, hf, rfl⟩ := List.mem_map.1 hx
        exact .inr (fun e => hn (.inl (by cases e; exact hf)))
      · exact hp.2.2 x hx y hy
  · rcases List.mem_append.1 hf with hf | hf
    · exact h.low f hf
    · simp at hf; subst hf; exact ⟨hB, hk⟩
/-- One event more. -/
theorem StAt.addEv (h : StAt N w es [] a) (e : Dsr.Ev) (v : Value) {Br : Nat} (hr : w.ownsRow Br 9 1 v e.roles.length (e.roles.map strV)) (hrl : ∀ k, v.ownBlock = some k → k < N) {o : Obj} {w2 : World} {g cap : Nat}
    (hown : w2.ownsRow N 175 1 (.slice (some ⟨g, 0, none⟩) (es.length + 1) cap) (es.length + 1) (a.eb.map ptr ++ [ptr w.heap.size]))
    (hg : ((w.alloc (.cells #[strV e.name, v, .bool e.done, .bool e.inn, .bool e.due] 177)).alloc o).grownBy w2 a.ve.ownBlock) (hat : a.ve.ownBlock = some g ∨ w.heap.size + 2 ≤ g) :
    StAt N (w2.setCell ⟨a.sb, 0, none⟩ (.slice (some ⟨g, 0, none⟩) (es.length + 1) cap)) (es ++ [e]) [] { a with eb := a.eb ++ [w.heap.size], ve := .slice (some ⟨g, 0, none⟩) (es.length + 1) cap, rv := a.rv ++ [v] } := by
  obtain ⟨w1, hw1⟩ : ∃ w1, w1 = (w.alloc (.cells #[strV e.name, v, .bool e.done, .bool e.inn, .bool e.due] 177)).alloc o := ⟨_, rfl⟩
  rw [← hw1] at hg
  have hb1 : Below w.heap.size w w1 := by rw [hw1]; exact ((Below.refl _ _).alloc (Nat.le_refl _) _).alloc (by simp) _
  have hs1 : w1.heap.size = w.heap.size + 2 := by rw [hw1]; simp
  have hk1 : w1.heap[w.heap.size]? = some (evB e v) := by rw [hw1]; exact (Below.heap_alloc _ _ _ (by simp)).trans (heap_alloc_new _ _)
  have h1 := h.below hb1
  have hN : N ≤ w.heap.size := by have := h.sbLt; omega
  have hnew : ¬ Owns (a.sb :: a.eb) (stRows es [] a) w.heap.size := fun ho => by have := (h.rows.lt ho).2; omega
  have r1 := h1.rows.addF hN (by omega) hnew
  have hrow0 : (stRows es [] a)[0]? = some ⟨a.ve, 175, 1, es.length, a.eb.map ptr⟩ := rfl
  have r2 := r1.setRow (w' := w2) hrow0 (r' := ⟨.slice (some ⟨g, 0, none⟩) (es.length + 1) cap, 175, 1, es.length + 1, a.eb.map ptr ++ [ptr w.heap.size]⟩) hown hg.size (fun k hk hn => hg.block k hk hn) (fun g' hg' => by
    simp [Value.ownBlock] at hg'
    subst hg'
    rcases hat with h | h
    · exact .inl h
    · right; omega)
  have r3 := r2.put (f := a.sb) (by simp) 0 (.slice (some ⟨g, 0, none⟩) (es.length + 1) cap)
  have hsz2 : w2.heap.size ≤ (w2.setCell ⟨a.sb, 0, none⟩ (.slice (some ⟨g, 0, none⟩) (es.length + 1) cap)).heap.size := by simp [World.setCell]
  have hfar : ∀ k, k < w1.heap.size → some k ≠ a.ve.ownBlock → k ≠ a.sb → (w2.setCell ⟨a.sb, 0, none⟩ (.slice (some ⟨g, 0, none⟩) (es.length + 1) cap)).heap[k]? = w1.heap[k]? := fun k hk hn hs => by
    rw [heap_setCell_other _ _ _ _ (by exact hs)]; exact hg.block k hk hn
  have hnotve : ∀ k, k ∈ a.sb :: a.eb → some k ≠ a.ve.ownBlock := fun k hk e => h.rows.notFixed (r := ⟨a.ve, 175, 1, es.length, a.eb.map ptr⟩) (by simp [stRows]) e.symm hk
  refine ⟨?_, ?_, by simp [h.len], by simp [h.rlen], ?_, ?_⟩
  · have e1 : stRows (es ++ [e]) [] { a with eb := a.eb ++ [w.heap.size], ve := .slice (some ⟨g, 0, none⟩) (es.length + 1) cap, rv := a.rv ++ [v] } = (stRows es [] a).set 0 ⟨.slice (some ⟨g, 0, none⟩) (es.length + 1) cap, 175, 1, es.length + 1, a.eb.map ptr ++ [ptr w.heap.size]⟩ := by
      simp [stRows]
    rw [e1]
    exact r3
  · have hb2 : w2.heap[a.sb]? = some (.cells #[a.ve, a.vr] 174 (0, 0)) := (hg.block a.sb (by have := h1.sbLt; omega) (hnotve _ (by simp))).trans h1.blk
    show (w2.setCell ⟨a.sb, 0, none⟩ _).heap[a.sb]? = some (.cells #[.slice (some ⟨g, 0, none⟩) (es.length + 1) cap, a.vr] 174 (0, 0))
    rw [blk_set hb2]
    simp
  · intro i x b u hx hb hu
    by_cases hi : i < es.length
    · rw [List.getElem?_append_left hi] at hx
      have hb' : a.eb[i]? = some b := by rw [← hb]; exact (List.getElem?_append_left (by rw [h.len]; exact hi)).symm
      have hu' : a.rv[i]? = some u := by rw [← hu]; exact (List.getElem?_append_left (by rw [h.rlen]; exact hi)).symm
      have hbm : b ∈ a.eb := List.mem_of_getElem? hb'
      rw [hfar b (by have := h1.ebLt hbm; omega) (hnotve b (by simp [hbm])) (fun e => h.nodup.2 (by rw [← e]; exact hbm))]
      exact h1.ev i x b u hx hb' hu'
    · have hil : i = es.length := by
        have := (List.getElem?_eq_some_iff.1 hx).1
        simp at this; omega
      subst hil
      have ex : e = x := by simpa using hx
      have eb : w.heap.size = b := by have := hb; rw [← h.len] at this; simpa using this
      have eu : v = u := by have := hu; rw [← h.rlen] at this; simpa using this
      subst ex eb eu
      rw [hfar w.heap.size (by omega) (fun e => by have := (World.ownsRow.lt h.own0 w.heap.size e.symm).2; omega) (by have := h.sbLt; omega)]
      exact hk1
  · intro i x u hx hu
    by_cases hi : i < es.length
    · rw [List.getElem?_append_left hi] at hx
      have hu' : a.rv[i]? = some u := by rw [← hu]; exact (List.getElem?_append_left (by rw [h.rlen]; exact hi)).symm
      obtain ⟨⟨B', ho⟩, hl⟩ := h1.rol i x u hx hu'
      refine ⟨⟨B', ownsRow_of_block ho fun k hk hv => hfar k hk (fun e => ?_) (by have := hl k hv; have := h.sbLt; omega)⟩, hl⟩
      have := (World.ownsRow.lt h.own0 k e.symm).1
      have := hl k hv
      omega
    · have hil : i = es.length := by
        have := (List.getElem?_eq_some_iff.1 hx).1
        simp at this; omega
      subst hil
      have ex : e = x := by simpa using hx
      have eu : v = u := by have := hu; rw [← h.rlen] at this; simpa using this
      subst ex eu
      have hr1 : w1.ownsRow Br 9 1 v e.roles.length (e.roles.map strV) := ownsRow_of_block hr fun k hk _ => hb1.block k hk
      refine ⟨⟨Br, ownsRow_of_block hr1 fun k hk hv => hfar k hk (fun e => ?_) (by have := hrl k hv; have := h.sbLt; omega)⟩, hrl⟩
      have := (World.ownsRow.lt h.own0 k e.symm).1
      have := hrl k hv
      omega
/-- One rule more. -/
theorem StAt.addRu (h : StAt N w es rs a) (r : Dsr.Rl) {o : Obj} {w2 : World} {g cap : Nat}
    (hown : w2.ownsRow N 180 3 (.slice (some ⟨g, 0, none⟩) (rs.length + 1) cap) (rs.length + 1) (rs.flatMap (ruS (nms es) a.eb) ++ ruS (nms es) a.eb r))
    (hg : (w.alloc o).grownBy w2 a.vr.ownBlock) (hat : a.vr.ownBlock = some g ∨ w.heap.size + 1 ≤ g) :
    StAt N (w2.setCell ⟨a.sb, 1, none⟩ (.slice (some ⟨g, 0, none⟩) (rs.length + 1) cap)) es (rs ++ [r]) { a with vr := .slice (some ⟨g, 0, none⟩) (rs.length + 1) cap } := by
  have hb1 : Below w.heap.size w (w.alloc o) := (Below.refl _ _).alloc (Nat.le_refl _) _
  have hs1 : (w.alloc o).heap.size = w.heap.size + 1 := by simp
  have h1 := h.below hb1
  have hrow1 : (stRows es rs a)[1]? = some ⟨a.vr, 180, 3, rs.length, rs.flatMap (ruS (nms es) a.eb)⟩ := rfl
  have r2 := h1.rows.setRow (w' := w2) hrow1 (r' := ⟨.slice (some ⟨g, 0, none⟩) (rs.length + 1) cap, 180, 3, rs.length + 1, rs.flatMap (ruS (nms es) a.eb) ++ ruS (nms es) a.eb r⟩) hown hg.size (fun k hk hn => hg.block k hk hn) (fun g' hg' => by
    simp [Value.ownBlock] at hg'
    subst hg'
    rcases hat with h | h
    · exact .inl h
    · right; omega)
  have r3 := r2.put (f := a.sb) (by simp) 1 (.slice (some ⟨g, 0, none⟩) (rs.length + 1) cap)
  have hfar : ∀ k, k < (w.alloc o).heap.size → some k ≠ a.vr.ownBlock → k ≠ a.sb → (w2.setCell ⟨a.sb, 1, none⟩ (.slice (some ⟨g, 0, none⟩) (rs.length + 1) cap)).heap[k]? = (w.alloc o).heap[k]? := fun k hk hn hs => by
    rw [heap_setCell_other _ _ _ _ (by exact hs)]; exact hg.block k hk hn
  have hnotvr : ∀ k, k ∈ a.sb :: a.eb → some k ≠ a.vr.ownBlock := fun k hk e => h.rows.notFixed (r := ⟨a.vr, 180, 3, rs.length, rs.flatMap (ruS (nms es) a.eb)⟩) (by simp [stRows]) e.symm hk
  have hvrlt : ∀ k, a.vr.ownBlock = some k → N ≤ k := fun k hk => (World.ownsRow.lt (h.rows.own ⟨a.vr, 180, 3, rs.length, rs.flatMap (ruS (nms es) a.eb)⟩ (by simp [stRows])) k hk).1
  refine ⟨?_, ?_, h.len, h.rlen, ?_, ?_⟩
  · have e1 : stRows es (rs ++ [r]) { a with vr := .slice (some ⟨g, 0, none⟩) (rs.length + 1) cap } = (stRows es rs a).set 1 ⟨.slice (some ⟨g, 0, none⟩) (rs.length + 1) cap, 180, 3, rs.length + 1, rs.flatMap (ruS (nms es) a.eb) ++ ruS (nms es) a.eb r⟩ := by
      simp [stRows]
    rw [e1]
    exact r3
  · have hb2 : w2.heap[a.sb]? = some (.cells #[a.ve, a.vr] 174 (0, 0)) := (hg.block a.sb (by have := h1.sbLt; omega) (hnotvr _ (by simp))).trans h1.blk
    show (w2.setCell ⟨a.sb, 1, none⟩ _).heap[a.sb]? = some (.cells #[a.ve, .slice (some ⟨g, 0, none⟩) (rs.length + 1) cap] 174 (0, 0))
    rw [blk_set hb2]
    simp
  · intro i x b u hx hb hu
    have hbm : b ∈ a.eb := List.mem_of_getElem? hb
    rw [hfar b (by have := h1.ebLt hbm; omega) (hnotvr b (by simp [hbm])) (fun e => h.nodup.2 (by rw [← e]; exact hbm))]
    exact h1.ev i x b u hx hb hu
  · intro i x u hx hu
    obtain ⟨⟨B', ho⟩, hl⟩ := h1.rol i x u hx hu
    refine ⟨⟨B', ownsRow_of_block ho fun k hk hv => hfar k hk (fun e => ?_) (by have := hl k hv; have := h.sbLt; omega)⟩, hl⟩
    have := hvrlt k e.symm
    have := hl k hv
    omega
end
end Go.Proofs.YtjmcokcdaddpcaaGreatDoor
namespace Go.Proofs.YtjmcokcdaddpcaaGreatDoor
section
variable {P : Program} {ops : Array Oper} {Q : Exit → Act → World → Prop} {md : Region.Mode} {S : World → Prop} {D : List Nat}
/-- Whatever order is picked from here on, and behind every operation that is carried out, but for those of D, S holds. -/
def wpAnyD (P : Program) (md : Region.Mode) (ops : Array Oper) (Q : Exit → Act → World → Prop) (S : World → Prop) (D : List Nat) : Nat → Array Bool → Act → World → Prop
  | 0, listed, a, w => Region.ready md ops listed = [] ∧ Q .normal a w
  | fuel + 1, listed, a, w =>
    (Region.ready md ops listed = [] → Q .normal a w) ∧
    ∀ i ∈ Region.ready md ops listed, wpOp P ops Q i (fun a' w' => (i ∈ D ∨ (S w → S w')) ∧ wpAnyD P md ops Q S D fuel (listed.setIfInBounds i true) a' w') a w
theorem wpAny_of_D : ∀ (fuel : Nat) (listed : Array Bool) (a : Act) (w : World), wpAnyD P md ops Q S D fuel listed a w → wpAny P md ops Q fuel listed a w
  | 0, _, _, _, h => h
  | fuel + 1, _, _, _, h => ⟨h.1, fun i hi => wpOp_mono (fun a' w' h' => wpAny_of_D fuel _ a' w' h'.2) (h.2 i hi)⟩
/-- Taken first: what yields in whatever world. -/
theorem wpAnyD_firstY {i : Nat} {oi : Oper} {v : Value} (hi : ops[i]? = some oi) (hsel : ∀ (j : Nat) (o : Oper) cs b, ops[j]? = some o → o.op ≠ .select cs b)
    (hQ : ∀ c a w, Q (.panic c) (a.put oi.dst v) w → Q (.panic c) a w) :
    ∀ (fuel : Nat) (listed : Array Bool) (a : Act) (w : World),
      (∀ j oj, ops[j]? = some oj → j ≠ i → listed.getD j true = false → (∀ e ∈ oj.after, Region.binds md e = true → e.on ≠ i) → oi.apart ops oj = true) →
      i ∈ Region.ready md ops listed → Yields P ops oi v a →
      wpAnyD P md ops Q S D fuel (listed.setIfInBounds i true) (a.put oi.dst v) w → wpAnyD P md ops Q S D (fuel + 1) listed a w := by
  intro fuel
  induction fuel with
  | zero =>
    intro listed a w _ hr hy H
    refine ⟨fun h => (by rw [h] at hr; cases hr), fun j hj => ?_⟩
    by_cases hji : j = i
    · subst hji; exact hy.wpOp hi ⟨.inr id, H⟩
    · have := ready_mono hj hji
      rw [H.1] at this
      cases this
  | succ fuel ih =>
    intro listed a w hfree hr hy H
    refine ⟨fun h => (by rw [h] at hr; cases hr), fun j hj => ?_⟩
    by_cases hji : j = i
    · subst hji; exact hy.wpOp hi ⟨.inr id, H⟩
    · have h1 := H.2 j (ready_mono hj hji)
      obtain ⟨hjun, oj, hoj, hall⟩ := mem_ready.1 hj
      have hnot : ∀ e ∈ oj.after, Region.binds md e = true → e.on ≠ i := fun e he hb heq => by
        have h1 := hall e he hb
        have h0 := (mem_ready.1 hr).1
        rw [heq] at h1
        rcases Nat.lt_or_ge i listed.size with h' | h'
        · simp [h'] at h0 h1; rw [h0] at h1; cases h1
        · simp [Array.getElem?_eq_none h'] at h1
      have h2 := wpOp_put hoj (hfree j oj hoj hji hjun hnot) (fun cs b => hsel i oi cs b hi) (fun cs b => hsel j oj cs b hoj) hQ hy h1
      have hfree' : ∀ k ok, ops[k]? = some ok → k ≠ i → (listed.setIfInBounds j true).getD k true = false →
          (∀ e ∈ ok.after, Region.binds md e = true → e.on ≠ i) → oi.apart ops ok = true := fun k ok hk hki hun hno => by
        refine hfree k ok hk hki ?_ hno
        by_cases hjk : j = k
        · subst hjk; exact hjun
        · rw [getD_set_ne true hjk] at hun; exact hun
      refine wpOp_mono (fun a' w' h3 => ⟨h3.2.1, ih (listed.setIfInBounds j true) a' w' hfree' (ready_mono hr (Ne.symm hji)) h3.1 ?_⟩) h2
      rw [Array.setIfInBounds_comm _ _ hji]
      exact h3.2.2
/-- Taken first: what yields in every world that meets S, where no operation of D can come up before it. -/
theorem wpAnyD_first {i : Nat} {oi : Oper} {v : Value} {E : List Nat} (hi : ops[i]? = some oi) (hsel : ∀ (j : Nat) (o : Oper) cs b, ops[j]? = some o → o.op ≠ .select cs b)
    (hQ : ∀ c a w, Q (.panic c) (a.put oi.dst v) w → Q (.panic c) a w) (hDE : ∀ d ∈ D, d ∈ E)
    (hE : ∀ d ∈ E, ∀ od, ops[d]? = some od → ∃ e ∈ od.after, Region.binds md e = true ∧ (e.on = i ∨ e.on ∈ E)) :
    ∀ (fuel : Nat) (listed : Array Bool) (a : Act) (w : World),
      (∀ j oj, ops[j]? = some oj → j ≠ i → listed.getD j true = false → (∀ e ∈ oj.after, Region.binds md e = true → e.on ≠ i) → oi.apart ops oj = true) →
      (∀ d ∈ E, listed.getD d false = false) →
      i ∈ Region.ready md ops listed → YieldsIf P ops S oi v a → S w →
      wpAnyD P md ops Q S D fuel (listed.setIfInBounds i true) (a.put oi.dst v) w → wpAnyD P md ops Q S D (fuel + 1) listed a w := by
  intro fuel
  induction fuel with
  | zero =>
    intro listed a w _ _ hr hy hS H
    refine ⟨fun h => (by rw [h] at hr; cases hr), fun j hj => ?_⟩
    by_cases hji : j = i
    · subst hji; exact hy.wpOp hi hS ⟨.inr id, H⟩
    · have := ready_mono hj hji
      rw [H.1] at this
      cases this
  | succ fuel ih =>
    intro listed a w hfree hun0 hr hy hS H
    refine ⟨fun h => (by rw [h] at hr; cases hr), fun j hj => ?_⟩
    by_cases hji : j = i
    · subst hji; exact hy.wpOp hi hS ⟨.inr id, H⟩
    · have h1 := H.2 j (ready_mono hj hji)
      obtain ⟨hjun, oj, hoj, hall⟩ := mem_ready.1 hj
      have hunl : listed.getD i false = false := by
        have h0 := (mem_ready.1 hr).1
        rcases Nat.lt_or_ge i listed.size with h' | h'
        · simp [h'] at h0 ⊢; exact h0
        · simp [Array.getElem?_eq_none h'] at h0
      have hnot : ∀ e ∈ oj.after, Region.binds md e = true → e.on ≠ i := fun e he hb heq => by
        have h1 := hall e he hb
        rw [heq, hunl] at h1
        cases h1
      have hjE : j ∉ E := fun hje => by
        obtain ⟨e, he, hb, h2⟩ := hE j hje oj hoj
        have h1 := hall e he hb
        rcases h2 with h2 | h2
        · exact hnot e he hb h2
        · rw [hun0 _ h2] at h1; cases h1
      have h2 := wpOp_putIf hoj (hfree j oj hoj hji hjun hnot) (fun cs b => hsel i oi cs b hi) (fun cs b => hsel j oj cs b hoj) hQ hy h1
      have hfree' : ∀ k ok, ops[k]? = some ok → k ≠ i → (listed.setIfInBounds j true).getD k true = false →
          (∀ e ∈ ok.after, Region.binds md e = true → e.on ≠ i) → oi.apart ops ok = true := fun k ok hk hki hun hno => by
        refine hfree k ok hk hki ?_ hno
        by_cases hjk : j = k
        · subst hjk; exact hjun
        · rw [getD_set_ne true hjk] at hun; exact hun
      have hun1 : ∀ d ∈ E, (listed.setIfInBounds j true).getD d false = false := fun d hd => by
        rw [getD_set_ne false (fun e => hjE (by rw [e]; exact hd))]
        exact hun0 d hd
      refine wpOp_mono (fun a' w' h3 => ?_) h2
      have hS' : S w' := by
        rcases h3.2.1 with h | h
        · exact absurd (hDE j h) hjE
        · exact h hS
      refine ⟨.inr (fun _ => hS'), ih (listed.setIfInBounds j true) a' w' hfree' hun1 (ready_mono hr (Ne.symm hji)) h3.1 hS' ?_⟩
      rw [Array.setIfInBounds_comm _ _ hji]
      exact h3.2.2
theorem wpAnyD_take (E : List Nat) {i : Nat} {oi : Oper} {v : Value} {fuel : Nat} {listed : Array Bool} {a : Act} {w : World} (hi : ops[i]? = some oi)
    (hs : Region.noSelect ops = true) (hf : Region.free md ops listed i = true) (hr : (Region.ready md ops listed).contains i = true)
    (hb : (D.all (fun d => E.contains d) && E.all (fun d => !listed.getD d false && match ops[d]? with | some o => o.after.any (fun e => Region.binds md e && (e.on == i || E.contains e.on)) | none => true)) = true)
    (hQ : ∀ c a w, Q (.panic c) (a.put oi.dst v) w → Q (.panic c) a w) (hy : YieldsIf P ops S oi v a) (hS : S w)
    (h : wpAnyD P md ops Q S D fuel (listed.setIfInBounds i true) (a.put oi.dst v) w) : wpAnyD P md ops Q S D (fuel + 1) listed a w := by
  rw [Bool.and_eq_true, List.all_eq_true, List.all_eq_true] at hb
  refine wpAnyD_first (E := E) hi (Region.noSelect_spec hs) hQ (fun d hd => by simpa using hb.1 d hd) (fun d hd od hod => ?_) fuel listed a w (Region.free_spec hi hf) (fun d hd => ?_) (by simpa using hr) hy hS h
  · have := hb.2 d hd
    rw [Bool.and_eq_true, hod] at this
    obtain ⟨e, he, h2⟩ := Array.any_eq_true'.1 this.2
    rw [Bool.and_eq_true, Bool.or_eq_true] at h2
    exact ⟨e, he, h2.1, by simpa using h2.2⟩
  · have := hb.2 d hd
    rw [Bool.and_eq_true] at this
    simpa using this.1
theorem wpAnyD_takeY {i : Nat} {oi : Oper} {v : Value} {fuel : Nat} {listed : Array Bool} {a : Act} {w : World} (hi : ops[i]? = some oi)
    (hs : Region.noSelect ops = true) (hf : Region.free md ops listed i = true) (hr : (Region.ready md ops listed).contains i = true)
    (hQ : ∀ c a w, Q (.panic c) (a.put oi.dst v) w → Q (.panic c) a w) (hy : Yields P ops oi v a)
    (h : wpAnyD P md ops Q S D fuel (listed.setIfInBounds i true) (a.put oi.dst v) w) : wpAnyD P md ops Q S D (fuel + 1) listed a w :=
  wpAnyD_firstY hi (Region.noSelect_spec hs) hQ fuel listed a w (Region.free_spec hi hf) (by simpa using hr) hy h
theorem wpAnyD_one {i : Nat} {o : Oper} {fuel : Nat} {listed : Array Bool} {a : Act} {w : World} (hr : Region.ready md ops listed = [i]) (ho : ops[i]? = some o)
    (h : ∀ K' : Act → World → Prop, Shut (∀ a1 w1, (i ∈ D ∨ (S w → S w1)) → wpAnyD P md ops Q S D fuel (listed.setIfInBounds i true) a1 w1 → K' a1 w1) → if Region.wanted o (yielded ops a.tmps) = true then Oper.wp P o a w K' Q else K' (a.put o.dst undef) w) : wpAnyD P md ops Q S D (fuel + 1) listed a w :=
  ⟨fun h0 => (by rw [hr] at h0; cases h0), by
    rw [hr]
    intro j hj
    rw [List.mem_singleton] at hj
    subst hj
    exact wpOp_step ho (fun K' hK => h K' (fun a w h1 h2 => hK a w ⟨h1, h2⟩))⟩
theorem wpAnyD_done {listed : Array Bool} {a : Act} {w : World} (hr : Region.ready md ops listed = []) (h : Q .normal a w) : ∀ fuel, wpAnyD P md ops Q S D fuel listed a w
  | 0 => ⟨hr, h⟩
  | _ + 1 => ⟨fun _ => h, by rw [hr]; simp⟩
theorem wp_region_D (S : World → Prop) (D : List Nat) {id : Nat} {a : Act} {w : World} (hm : P.follows .mixedOrders = true)
    (h : wpAnyD P .any ops Q S D ops.size (Array.replicate ops.size false) a w.drew) : (Code.region id ops true).wp P Q a w :=
  wp_region_any hm (wpAny_of_D _ _ _ _ h)
end
end Go.Proofs.YtjmcokcdaddpcaaGreatDoor
