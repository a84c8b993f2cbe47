import Derived.Test.YtjmcokcdaddpcaaGreatDoorUq
set_option linter.unusedVariables false
set_option linter.unusedSimpArgs false
namespace Go.Proofs.YtjmcokcdaddpcaaGreatDoor
open Go.RowKit
/-- The fault that a text is refused for, ahead of writing it. -/
def errOf (t : List UInt8) : Option (Nat × Nat) :=
  if 400 < t.length then some (1, 0) else if (Dsr.readR t).fErr ≠ 0 then some ((Dsr.readR t).fErr, (Dsr.readR t).fAt) else (Dsr.wrongName (Dsr.readR t).uses).map fun a => (4, a)
/-- What Read hands back. -/
def ReadP (N : Nat) (t : List UInt8) (w' : World) (gv : Value) (fe fa : Nat) : Prop :=
  (errOf t = some (fe, fa) ∧ fe ≠ 0) ∨ (errOf t = none ∧ ∃ es rs, OrdG (Dsr.readR t) es rs ∧ ((400 < (Dsr.text es rs).length ∧ fe = 1 ∧ fa = 0) ∨ ((Dsr.text es rs).length ≤ 400 ∧ fe = 0 ∧ fa = 0 ∧ ∃ B ve vr rv, N ≤ B ∧ gv = .agg #[ve, vr] ∧ GrAt B w' es rs ve vr rv ∧ Small es rs)))
theorem GS.gr {B G : Nat} {w : World} {ps : List EvS} {rs : List Dsr.Rl} {ve vr : Value} (h : GS B G w ps rs ve vr) : GrAt B w (ps.map (·.1)) rs ve vr (ps.map (fun p => slV p.2)) := by
  refine ⟨?_, h.rls, by simp, ?_⟩
  · rw [evCells_flat, List.length_map]; exact h.evs
  · intro i e v he hv
    rw [List.getElem?_map, Option.map_eq_some_iff] at he hv
    obtain ⟨p, hp, rfl⟩ := he
    obtain ⟨q, hq, rfl⟩ := hv
    rw [hp] at hq
    cases hq
    exact h.rol p (List.mem_of_getElem? hp)
theorem ord_of {r : Dsr.Rd} {ps ps' : List EvS} {rs' : List Dsr.Rl} (h1 : ps.map (·.1) = r.events) (h : Ordered ps r.rules ps' rs') : OrdG r ((ps'.map sortRoles).map (·.1)) (Dsr.compact eqRl rs') := by
  refine ⟨ps'.map (·.1), rs', ?_, ?_, ?_, h.pr, h.sr, rfl⟩
  · rw [← h1]; exact h.pe.map _
  · rw [List.pairwise_map]
    exact h.se.imp (fun {a b} hab => by
      have := hab
      unfold cfE at this
      rw [cmpS_eq] at this
      exact this)
  · rw [List.map_map, List.map_map]; rfl
theorem wrongName_rd {B b : Nat} {w : World} {t : ByteArray} {r : Dsr.Rd} {s : St} (h : RdAt B b w t r s) (hl : r.uses.length ≤ 110) :
    Calls Tryz.prog 65 #[s.vu] w fun x w' => x = .returned (faultV (Dsr.wrongName r.uses)) ∧ Below w.heap.size w w' := by
  rcases h.uss.2 with ⟨h1, h0⟩ | ⟨g, cap, cur, h1, hB, hb, h2, h3, h4, h5⟩
  · have e : r.uses = [] := List.eq_nil_of_length_eq_zero h0
    rw [h1, e]
    exact wrongName_nil
  · rw [h1]
    exact wrongName_some ⟨cur, hb, h5⟩ (by omega) h2
/-- Writes below a graph's blocks. -/
theorem gr_low {B : Nat} {w w' : World} {es : List Dsr.Ev} {rs : List Dsr.Rl} {ve vr : Value} {rv : List Value} (h : GrAt B w es rs ve vr rv) (hk : Kp (fun k => k < B) w w') : GrAt B w' es rs ve vr rv :=
  ⟨ownsRow_of_block h.evs (fun k hk1 hv => hk.block k hk1 (by have := (h.evs.lt k hv).1; omega)), ownsRow_of_block h.rls (fun k hk1 hv => hk.block k hk1 (by have := (h.rls.lt k hv).1; omega)), h.len, fun i e v he hv => ownsRow_of_block (h.rol i e v he hv) (fun k hk1 ho => hk.block k hk1 (by have := ((h.rol i e v he hv).lt k ho).1; omega))⟩
set_option maxRecDepth 100000 in
set_option maxHeartbeats 3200000 in
theorem read_long {w : World} {t : ByteArray} (h : 400 < t.size) :
    Calls Tryz.prog 39 #[.string t] w fun x w' => ∃ gv fe fa, x = .returned (.tuple #[gv, .agg #[.int .i64 (fe : Nat), .int .i64 (fa : Nat)]]) ∧ (∃ a n c d m e, gv = .agg #[.slice a n c, .slice d m e]) ∧ Below w.heap.size w w' ∧ ReadP w.heap.size t.data.toList w' gv fe fa := by
  have hz : (400 : Int) < (t.size : Int) := by omega
  go_enter Tryz.func39, Tryz.ntmps39
  go_wp2_with fail
  refine bodyPost_ret (v := .tuple #[.agg #[.slice none 0 0, .slice none 0 0], .agg #[.int .i64 ((1 : Nat) : Int), .int .i64 ((0 : Nat) : Int)]]) (by simp [results, Tryz.results39, go_sem]) rfl ⟨_, 1, 0, rfl, ⟨_, _, _, _, _, _, rfl⟩, ?_, .inl ⟨?_, by decide⟩⟩
  · repeat (first | refine Below.setCell ?_ (by simp) _ | exact ((Below.refl _ _).alloc (Nat.le_refl _) _).alloc (by simp) _ | refine Below.drew ?_)
  · unfold errOf
    rw [if_pos (by simpa using h)]
set_option maxRecDepth 100000 in
set_option maxHeartbeats 8000000 in
theorem read_short {w : World} {t : ByteArray} (h : t.size ≤ 400) (hS : SignsIn w) :
    Calls Tryz.prog 39 #[.string t] w fun x w' => ∃ gv fe fa, x = .returned (.tuple #[gv, .agg #[.int .i64 (fe : Nat), .int .i64 (fa : Nat)]]) ∧ (∃ a n c d m e, gv = .agg #[.slice a n c, .slice d m e]) ∧ Below w.heap.size w w' ∧ ReadP w.heap.size t.data.toList w' gv fe fa := by
  have hz : (t.size : Int) ≤ 400 := by omega
  have HS : Hid (SignsIn w) := hS
  have hw0 : 0 < w.heap.size := hS.1
  clear hS
  go_enter Tryz.func39, Tryz.ntmps39
  go_wp2_with fail
  refine (clone_any t _ (by omega)).mono ?_
  rintro x w0 ⟨rfl, b0⟩
  have hsz : ((w.alloc (.cells #[.slice none 0 0, .slice none 0 0] 91)).alloc (.cells #[.int .i64 0, .int .i64 0] 93)).heap.size = w.heap.size + 2 := by simp
  have p0 : w0.heap[w.heap.size]? = some (.cells #[.slice none 0 0, .slice none 0 0] 91 (0, 0)) := by rw [b0.block _ (by rw [hsz]; omega)]; exact (Below.heap_alloc _ _ _ (by simp)).trans (heap_alloc_new _ _)
  have q0 : w0.heap[w.heap.size + 1]? = some (.cells #[.int .i64 0, .int .i64 0] 93 (0, 0)) := by rw [b0.block _ (by rw [hsz]; omega)]; exact alloc_second _ _ _
  have hM : w.heap.size + 2 ≤ w0.heap.size := by rw [← hsz]; exact b0.size
  have bw0 : Below w.heap.size w w0 := (((Below.refl _ _).alloc (Nat.le_refl _) _).alloc (by simp) _).trans (b0.mono (by rw [hsz]; omega))
  have S0 : SignsIn w0 := HS.out.below bw0
  have H0 : Hid (w0.heap[w.heap.size]? = some (.cells #[.slice none 0 0, .slice none 0 0] 91 (0, 0)) ∧ w0.heap[w.heap.size + 1]? = some (.cells #[.int .i64 0, .int .i64 0] 93 (0, 0)) ∧ Below w.heap.size w w0 ∧ SignsIn w0) := ⟨p0, q0, bw0, S0⟩
  clear p0 q0 bw0 S0 b0 hsz
  go_wp2_with fail
  refine (newReader_any h H0.out.2.2.2).mono ?_
  rintro x w1 ⟨b, rfl, hbl, R1, b1⟩
  have S1 : SignsIn w1 := H0.out.2.2.2.below b1
  have p1 : w1.heap[w.heap.size]? = some (.cells #[.slice none 0 0, .slice none 0 0] 91 (0, 0)) := by rw [b1.block _ (by omega)]; exact H0.out.1
  have q1 : w1.heap[w.heap.size + 1]? = some (.cells #[.int .i64 0, .int .i64 0] 93 (0, 0)) := by rw [b1.block _ (by omega)]; exact H0.out.2.1
  have bw : Below w.heap.size w w1 := H0.out.2.2.1.trans (b1.mono (by omega))
  obtain ⟨M, hMM⟩ : ∃ M, M = w0.heap.size := ⟨_, rfl⟩
  rw [← hMM] at hbl R1 b1 hM
  clear hMM H0
  have H1 : Hid (RdAt (M) b w1 t (Dsr.newRd t.data.toList) rd0St ∧ SignsIn w1 ∧ Below w.heap.size w w1 ∧ w1.heap[w.heap.size]? = some (.cells #[.slice none 0 0, .slice none 0 0] 91 (0, 0)) ∧ w1.heap[w.heap.size + 1]? = some (.cells #[.int .i64 0, .int .i64 0] 93 (0, 0))) := ⟨R1, S1, bw, p1, q1⟩
  clear R1 b1 S1 p1 q1 bw
  go_wp2_with fail
  refine (lines_any H1.out.1 h H1.out.2.1).mono ?_
  rintro x w2 ⟨rfl, s2, E2⟩
  have b2 : Below (M) w1 w2 := E2.kp.below (by have := H1.out.1.lt; omega) (fun k hk => (H1.out.1.mine hk).1)
  have p2 := (b2.block w.heap.size (by omega)).trans H1.out.2.2.2.1
  have q2 := (b2.block (w.heap.size + 1) (by omega)).trans H1.out.2.2.2.2
  have S2 := E2.signs H1.out.1 H1.out.2.1
  have bw2 : Below w.heap.size w w2 := H1.out.2.2.1.trans (b2.mono (by omega))
  have hR : Dsr.lines t.data.toList 32 (Dsr.newRd t.data.toList) = Dsr.readR t.data.toList := rfl
  rw [hR] at E2
  have hlen : t.data.toList.length = t.size := by simp
  have hrd : Dsr.RdOk 400 (Dsr.readR t.data.toList) := by
    have k := Dsr.readR_rd t.data.toList
    exact ⟨⟨k.now.rule, by have := k.now.text; omega⟩, fun e he => ⟨by have := (k.ev e he).name; omega, (k.ev e he).some, (k.ev e he).few, fun x hx => by have := (k.ev e he).role x hx; omega⟩, fun e he => ⟨(k.ru e he).kind, by have := (k.ru e he).left; omega, by have := (k.ru e he).right; omega⟩⟩
  have hfew := Dsr.readR_few t.data.toList (by omega)
  have herr : errOf t.data.toList = if (Dsr.readR t.data.toList).fErr ≠ 0 then some ((Dsr.readR t.data.toList).fErr, (Dsr.readR t.data.toList).fAt) else (Dsr.wrongName (Dsr.readR t.data.toList).uses).map fun a => (4, a) := by unfold errOf; rw [if_neg (by omega)]
  have HR : Hid (Dsr.RdOk 400 (Dsr.readR t.data.toList) ∧ ((Dsr.readR t.data.toList).events.length ≤ 10 ∧ (Dsr.readR t.data.toList).rules.length ≤ 20 ∧ (Dsr.readR t.data.toList).uses.length ≤ 110) ∧ errOf t.data.toList = if (Dsr.readR t.data.toList).fErr ≠ 0 then some ((Dsr.readR t.data.toList).fErr, (Dsr.readR t.data.toList).fAt) else (Dsr.wrongName (Dsr.readR t.data.toList).uses).map fun a => (4, a)) := ⟨hrd, hfew, herr⟩
  have HP : Hid (∀ (w' : World) gv fe fa, ReadP w.heap.size t.data.toList w' gv fe fa ↔ ((errOf t.data.toList = some (fe, fa) ∧ fe ≠ 0) ∨ (errOf t.data.toList = none ∧ ∃ es rs, OrdG (Dsr.readR t.data.toList) es rs ∧ ((400 < (Dsr.text es rs).length ∧ fe = 1 ∧ fa = 0) ∨ ((Dsr.text es rs).length ≤ 400 ∧ fe = 0 ∧ fa = 0 ∧ ∃ B ve vr rv, w.heap.size ≤ B ∧ gv = .agg #[ve, vr] ∧ GrAt B w' es rs ve vr rv ∧ Small es rs))))) := fun _ _ _ _ => Iff.rfl
  clear hrd hfew herr hR hlen
  generalize Dsr.readR t.data.toList = r at *
  obtain ⟨c0, c1, c2, c3, c4, c5, c6, c7, c8, c9, fz⟩ := E2.rd.cells
  obtain ⟨a0, a1, fa⟩ := cells2 p2
  obtain ⟨d0, d1, fd⟩ := cells2 q2
  have H2 : Hid (RdAt (M) b w2 t r s2 ∧ SignsIn w2 ∧ Below w.heap.size w w2 ∧ w2.heap[w.heap.size]? = some (.cells #[.slice none 0 0, .slice none 0 0] 91 (0, 0)) ∧ w2.heap[w.heap.size + 1]? = some (.cells #[.int .i64 0, .int .i64 0] 93 (0, 0))) := ⟨E2.rd, S2, bw2, p2, q2⟩
  have hbN := E2.rd.lt
  clear E2 b2 p2 q2 S2 bw2 c0 c1 c2 c3 c4 H1
  by_cases h0 : r.fErr = 0
  · have hb0 : ((r.fErr : Int) == 0) = true := by simp [h0]
    have H0 : Hid (r.fErr = 0) := h0
    clear h0
    obtain ⟨ae, ce, hve⟩ := owned_shape H2.out.1.evs
    obtain ⟨ar, cr, hvr⟩ := owned_shape H2.out.1.rls
    go_wp2_with fail
    refine (wrongName_rd H2.out.1 HR.out.2.1.2.2).mono ?_
    rintro x w3 ⟨rfl, b3⟩
    have R3 := H2.out.1.below b3
    have p3 := (b3.block w.heap.size (by omega)).trans H2.out.2.2.2.1
    have q3 := (b3.block (w.heap.size + 1) (by omega)).trans H2.out.2.2.2.2
    have S3 := H2.out.2.1.below b3
    have bw3 : Below w.heap.size w w3 := H2.out.2.2.1.trans (b3.mono (by have := H2.out.2.2.1.size; omega))
    clear a0 a1 fa d0 d1 fd c5 c6 c7 c8 c9 fz
    obtain ⟨c0, c1, c2, c3, c4, c5, c6, c7, c8, c9, fz⟩ := R3.cells
    obtain ⟨a0, a1, fa⟩ := cells2 p3
    obtain ⟨d0, d1, fd⟩ := cells2 q3
    have H3 : Hid (RdAt (M) b w3 t r s2 ∧ SignsIn w3 ∧ Below w.heap.size w w3 ∧ w3.heap[w.heap.size]? = some (.cells #[.slice none 0 0, .slice none 0 0] 91 (0, 0)) ∧ w3.heap[w.heap.size + 1]? = some (.cells #[.int .i64 0, .int .i64 0] 93 (0, 0))) := ⟨R3, S3, bw3, p3, q3⟩
    have hbN3 := R3.lt
    have nb0 : ¬ b = w.heap.size := by omega
    have nb1 : ¬ b = w.heap.size + 1 := by omega
    have nb2 : ¬ w.heap.size = b := by omega
    have nb3 : ¬ w.heap.size + 1 = b := by omega
    clear R3 b3 p3 q3 S3 bw3 c0 c1 c2 c3 c4
    rcases hwn : Dsr.wrongName r.uses with _ | a
    · have HN : Hid (errOf t.data.toList = none) := by show _ = _; rw [HR.out.2.2, if_neg (by rw [H0.out]; decide), hwn]; rfl
      clear hwn
      have R4 : RdAt (M) b ((w3.setCell ⟨b, 8, none⟩ (.int .i64 0)).setCell ⟨b, 9, none⟩ (.int .i64 0)) t { r with fErr := 0, fAt := 0 } s2 := by
        refine H3.out.1.put rfl rfl rfl ?_ ?_
        · rw [blk_set (blk_set H3.out.1.blk 8 _) 9 _]; simp [rdCells]
        · intro k hk hne
          repeat rw [heap_setCell_other _ _ _ _ hne]
      obtain ⟨ps, hps', G4⟩ := R4.graph
      have hps : ps.map (·.1) = r.events := hps'
      clear hps'
      have hfv : faultV none = .agg #[.int .i64 0, .int .i64 0] := rfl
      rw [hfv]
      have H4 : Hid (ps.map (·.1) = r.events ∧ GS (M) w3.heap.size (((w3.setCell ⟨b, 8, none⟩ (.int .i64 0)).setCell ⟨b, 9, none⟩ (.int .i64 0)).alloc (.cells #[s2.ve, s2.vr] 91)) ps r.rules s2.ve s2.vr) := ⟨hps, by simpa using G4⟩
      have hpl : ps.length ≤ 10 := by have := congrArg List.length hps; rw [List.length_map] at this; have := HR.out.2.1.1; omega
      have hpr : ∀ p ∈ ps, p.1.roles.length ≤ 1000 := fun p hp => by
        have hm : p.1 ∈ r.events := by rw [← hps]; exact List.mem_map.2 ⟨p, hp, rfl⟩
        have := (HR.out.1.ev _ hm).few; omega
      have HL : Hid (ps.length ≤ 10 ∧ ∀ p ∈ ps, p.1.roles.length ≤ 1000) := ⟨hpl, hpr⟩
      clear R4 hps G4 hfv hpl hpr
      have H4' := H4.out.2
      rw [hve, hvr] at H4'
      have H5 : Hid (GS (M) w3.heap.size (((w3.setCell ⟨b, 8, none⟩ (.int .i64 0)).setCell ⟨b, 9, none⟩ (.int .i64 0)).alloc (.cells #[.slice ae r.events.length ce, .slice ar r.rules.length cr] 91)) ps r.rules (.slice ae r.events.length ce) (.slice ar r.rules.length cr)) := H4'
      clear H4'
      rw [hve] at c5
      rw [hvr] at c6
      go_wp2_with fail
      refine (putInOrder_any H5.out (by have := HL.out.1; omega) (by have := HR.out.2.1.2.1; omega) HL.out.2).mono ?_
      rintro x w5 ⟨rfl, ps', rs', vr', hOrd, G5, b5⟩
      have b5' : Below (M) w3 w5 := (((Below.refl _ _).setCell (by have := H3.out.1.low; simpa using this) _).setCell (by have := H3.out.1.low; simpa using this) _).alloc (by simp; omega) _ |>.trans b5
      have p5 := (b5'.block w.heap.size (by omega)).trans H3.out.2.2.2.1
      have q5 := (b5'.block (w.heap.size + 1) (by omega)).trans H3.out.2.2.2.2
      have S5 : SignsIn w5 := H3.out.2.1.kp (S := fun k => M ≤ k) ⟨b5'.os, b5'.tape, b5'.output, b5'.size, fun k hk hn => b5'.block k (by omega)⟩ (by omega)
      have bw5 : Below w.heap.size w w5 := H3.out.2.2.1.trans (b5'.mono (by omega))
      have hO := ord_of H4.out.1 hOrd
      have hSm := small_of hO HR.out.1 HR.out.2.1.1 HR.out.2.1.2.1
      have hGr := G5.gr
      obtain ⟨a5, c5', hv5⟩ := owned_shape G5.rls
      subst hv5
      clear a0 a1 fa d0 d1 fd c5 c6 c7 c8 c9 fz
      obtain ⟨a0, a1, fa⟩ := cells2 p5
      obtain ⟨d0, d1, fd⟩ := cells2 q5
      obtain ⟨g0, g1, fg⟩ := cells2 G5.blk
      have hG5 := G5.lt
      have HX : Hid (OrdG r ((ps'.map sortRoles).map (·.1)) (Dsr.compact eqRl rs') ∧ Small ((ps'.map sortRoles).map (·.1)) (Dsr.compact eqRl rs') ∧ GrAt (M) w5 ((ps'.map sortRoles).map (·.1)) (Dsr.compact eqRl rs') (.slice ae r.events.length ce) (.slice a5 (Dsr.compact eqRl rs').length c5') ((ps'.map sortRoles).map (fun p => slV p.2)) ∧ SignsIn w5 ∧ Below w.heap.size w w5 ∧ w5.heap[w.heap.size]? = some (.cells #[.slice none 0 0, .slice none 0 0] 91 (0, 0)) ∧ w5.heap[w.heap.size + 1]? = some (.cells #[.int .i64 0, .int .i64 0] 93 (0, 0)) ∧ w5.heap[w3.heap.size]? = some (.cells #[.slice ae r.events.length ce, .slice a5 (Dsr.compact eqRl rs').length c5'] 91 (0, 0))) := ⟨hO, hSm, hGr, S5, bw5, p5, q5, G5.blk⟩
      clear hOrd G5 b5 b5' p5 q5 S5 bw5 hO hSm hGr
      generalize (ps'.map sortRoles).map (fun p => slV p.2) = rv at *
      generalize (ps'.map sortRoles).map (·.1) = es at *
      generalize Dsr.compact eqRl rs' = rs at *
      go_wp2_with fail
      refine (text_any HX.out.2.2.1 HX.out.2.1 HX.out.2.2.2.1).mono ?_
      rintro x w6 ⟨rfl, b6⟩
      have p6 := (b6.block w.heap.size (by omega)).trans HX.out.2.2.2.2.2.1
      have q6 := (b6.block (w.heap.size + 1) (by omega)).trans HX.out.2.2.2.2.2.2.1
      have g6 := (b6.block w3.heap.size hG5).trans HX.out.2.2.2.2.2.2.2
      have bw6 : Below w.heap.size w w6 := HX.out.2.2.2.2.1.trans (b6.mono (by omega))
      have gr6 := HX.out.2.2.1.below (Nat.le_refl _) b6
      clear a0 a1 fa d0 d1 fd g0 g1 fg
      obtain ⟨a0, a1, fa⟩ := cells2 p6
      obtain ⟨d0, d1, fd⟩ := cells2 q6
      obtain ⟨g0, g1, fg⟩ := cells2 g6
      have HY : Hid (Below w.heap.size w w6 ∧ GrAt (M) w6 es rs (.slice ae r.events.length ce) (.slice a5 rs.length c5') rv) := ⟨bw6, gr6⟩
      have hn30 : ¬ w3.heap.size = w.heap.size := by omega
      have hn31 : ¬ w3.heap.size = w.heap.size + 1 := by omega
      clear p6 q6 g6 bw6 gr6 b6
      by_cases hl : 400 < (Dsr.text es rs).length
      · have hl' : (400 : Int) < ((Dsr.text es rs).length : Int) := by omega
        have HLn : Hid (400 < (Dsr.text es rs).length) := hl
        clear hl
        go_wp2_with fail
        refine bodyPost_ret (v := .tuple #[.agg #[.slice none 0 0, .slice none 0 0], .agg #[.int .i64 ((1 : Nat) : Int), .int .i64 ((0 : Nat) : Int)]]) (by simp [results, Tryz.results39, go_sem, a0, a1, fa, d0, d1, fd]) rfl ⟨_, 1, 0, rfl, ⟨_, _, _, _, _, _, rfl⟩, ?_, ?_⟩
        · repeat (first | exact HY.out.1 | refine Below.setCell ?_ (by simp) _ | refine Below.drew ?_)
        · rw [HP.out]
          exact .inr ⟨HN.out, es, rs, HX.out.1, .inl ⟨HLn.out, rfl, rfl⟩⟩
      · have hl' : ((Dsr.text es rs).length : Int) ≤ 400 := by omega
        have HLn : Hid ((Dsr.text es rs).length ≤ 400) := by show _ ≤ _; omega
        clear hl
        go_wp2_with fail
        refine bodyPost_ret (v := .tuple #[.agg #[.slice ae r.events.length ce, .slice a5 rs.length c5'], .agg #[.int .i64 ((0 : Nat) : Int), .int .i64 ((0 : Nat) : Int)]]) (by simp [results, Tryz.results39, go_sem, a0, a1, fa, d0, d1, fd]) rfl ⟨_, 0, 0, rfl, ⟨_, _, _, _, _, _, rfl⟩, ?_, ?_⟩
        · repeat (first | exact HY.out.1 | refine Below.setCell ?_ (by simp) _ | refine Below.drew ?_)
        · rw [HP.out]
          refine .inr ⟨HN.out, es, rs, HX.out.1, .inr ⟨HLn.out, rfl, rfl, M, _, _, rv, by omega, rfl, ?_, HX.out.2.1⟩⟩
          exact gr_low HY.out.2 (by repeat (first | exact Kp.refl _ _ | refine Kp.setCell ?_ (.inl (by first | (simp; done) | (show _ < _; omega) | (simp; omega))) _ | refine Kp.drew ?_))
    · have HN : Hid (errOf t.data.toList = some (4, a)) := by show _ = _; rw [HR.out.2.2, if_neg (by rw [H0.out]; decide), hwn]; rfl
      clear hwn
      have hfv : faultV (some a) = .agg #[.int .i64 4, .int .i64 a] := rfl
      rw [hfv]
      clear hfv
      go_wp2_with fail
      go_region
      all_goals
        go_wp2_with fail
        refine bodyPost_ret (v := .tuple #[.agg #[.slice none 0 0, .slice none 0 0], .agg #[.int .i64 ((4 : Nat) : Int), .int .i64 (a : Int)]]) (by simp [results, Tryz.results39, go_sem, a0, a1, fa, d0, d1, fd]) rfl ⟨_, 4, a, rfl, ⟨_, _, _, _, _, _, rfl⟩, ?_, ?_⟩
        · repeat (first | refine Below.setCell ?_ (by simp; omega) _ | refine Below.setCell ?_ (by simp) _ | exact H3.out.2.2.1 | refine Below.drew ?_)
        · rw [HP.out]
          exact .inl ⟨HN.out, by decide⟩
  · have hb0 : ((r.fErr : Int) == 0) = false := by simp; omega
    have hb1 : ((r.fErr : Int) != 0) = true := by simp; omega
    have H0 : Hid (¬ r.fErr = 0) := h0
    clear h0
    go_wp2_with fail
    go_region
    all_goals
      go_wp2_with fail
      refine bodyPost_ret (v := .tuple #[.agg #[.slice none 0 0, .slice none 0 0], .agg #[.int .i64 (r.fErr : Int), .int .i64 (r.fAt : Int)]]) (by simp [results, Tryz.results39, go_sem, a0, a1, fa, d0, d1, fd]) rfl ⟨_, r.fErr, r.fAt, rfl, ⟨_, _, _, _, _, _, rfl⟩, ?_, ?_⟩
      · repeat (first | refine Below.setCell ?_ (by simp) _ | exact H2.out.2.2.1 | refine Below.drew ?_)
      · rw [HP.out]
        exact .inl ⟨by rw [HR.out.2.2, if_pos H0.out], H0.out⟩
end Go.Proofs.YtjmcokcdaddpcaaGreatDoor
