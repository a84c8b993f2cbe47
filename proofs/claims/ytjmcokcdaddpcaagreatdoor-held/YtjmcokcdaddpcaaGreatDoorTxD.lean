import Derived.Test.YtjmcokcdaddpcaaGreatDoorTxC
import Derived.Test.YtjmcokcdaddpcaaGreatDoorUa
import Derived.Lib.AppendIntMem
set_option linter.unusedVariables false
set_option linter.unusedSimpArgs false
namespace Go.Proofs.YtjmcokcdaddpcaaGreatDoor
open Go.RowKit
/-- A graph's lists in memory. -/
structure GrAt (B : Nat) (w : World) (es : List Dsr.Ev) (rs : List Dsr.Rl) (ve vr : Value) (rv : List Value) : Prop where
  evs : w.ownsRow B 144 5 ve es.length (evCells es rv)
  rls : w.ownsRow B 150 3 vr rs.length (rs.flatMap rlC)
  len : rv.length = es.length
  rol : ∀ (i : Nat) (e : Dsr.Ev) (v : Value), es[i]? = some e → rv[i]? = some v → w.ownsRow B 9 1 v e.roles.length (e.roles.map strV)
theorem evCells_at : ∀ (es : List Dsr.Ev) (rv : List Value) (k : Nat) (e : Dsr.Ev) (v : Value) (j : Nat), es[k]? = some e → rv[k]? = some v → j < 5 → (evCells es rv)[k * 5 + j]? = (evC e v)[j]?
  | [], _, k, e, v, j, h, _, _ => by simp at h
  | a :: es, [], k, e, v, j, _, h, _ => by simp at h
  | a :: es, b :: rv, 0, e, v, j, h, h', hj => by
    have e1 : a = e := by simpa using h
    have e2 : b = v := by simpa using h'
    subst e1 e2
    rw [evCells, Nat.zero_mul, Nat.zero_add, List.getElem?_append_left (by simpa [evC] using hj)]
  | a :: es, b :: rv, k + 1, e, v, j, h, h', hj => by
    have e1 : es[k]? = some e := by simpa using h
    have e2 : rv[k]? = some v := by simpa using h'
    have e3 : (k + 1) * 5 + j = 5 + (k * 5 + j) := by omega
    rw [evCells, e3, List.getElem?_append_right (by simp [evC])]
    have e4 : 5 + (k * 5 + j) - (evC a b).length = k * 5 + j := by simp [evC]
    rw [e4]
    exact evCells_at es rv k e v j e1 e2 hj
theorem own_cell {w : World} {B : Nat} {e : TypeId} {m g c n : Nat} {xs : List Value} (h : w.ownsRow B e m (.slice (some ⟨g, 0, none⟩) n c) n xs) {j : Nat} {u : Value} (hu : xs[j]? = some u) : w.cell? ⟨g, j, none⟩ = some u := by
  have := h.cells (g := g) rfl j u hu
  simpa [Addr.add_lit] using this
theorem isB_below {T e : TypeId} {B b : Nat} {bs : List Value} {w w' : World} (h : Lib.IsBuilder T e B b bs w) (hb : Below w.heap.size w w') : Lib.IsBuilder T e B b bs w' := by
  rcases h with ⟨h1, v, h2, h3, h4⟩ | ⟨h1, v, h2, h3, h4⟩
  · exact .inl ⟨h1, v, by rw [hb.block _ (Array.getElem?_eq_some_iff.1 h2).1]; exact h2, ownsRow_of_block h3 (fun k hk _ => hb.block k hk), h4⟩
  · exact .inr ⟨h1, v, by rw [hb.block _ (Array.getElem?_eq_some_iff.1 h2).1]; exact h2, ownsRow_of_block h3 (fun k hk _ => hb.block k hk), h4⟩
/-- What a graph's text wants of its events and rules. -/
structure Small (es : List Dsr.Ev) (rs : List Dsr.Rl) : Prop where
  ev : ∀ e ∈ es, 0 < e.roles.length ∧ e.roles.length ≤ 100 ∧ (Dsr.joinC e.roles).length ≤ 100000 ∧ e.name.length ≤ 1000
  ru : ∀ r ∈ rs, r.kind < 5 ∧ r.left.length ≤ 1000 ∧ r.right.length ≤ 1000
  esl : es.length ≤ 1000
  rsl : rs.length ≤ 1000
  tx : (Dsr.text es rs).length ≤ 1000000000
theorem GrAt.below {B : Nat} {w w' : World} {es : List Dsr.Ev} {rs : List Dsr.Rl} {ve vr : Value} {rv : List Value} (h : GrAt B w es rs ve vr rv) {N : Nat} (hN : w.heap.size ≤ N) (hb : Below N w w') : GrAt B w' es rs ve vr rv :=
  ⟨ownsRow_of_block h.evs (fun k hk _ => hb.block k (by omega)), ownsRow_of_block h.rls (fun k hk _ => hb.block k (by omega)), h.len, fun i e v he hv => ownsRow_of_block (h.rol i e v he hv) (fun k hk _ => hb.block k (by omega))⟩
abbrev bc (l : List UInt8) : List Value := Lib.byteCells l
theorem bc_append (a b : List UInt8) : bc a ++ Lib.strCells ⟨b.toArray⟩ = bc (a ++ b) := by
  rw [Lib.strCells_toArray]; simp [bc, Lib.byteCells]
theorem bc_len (a : List UInt8) : (bc a).length = a.length := by simp [bc, Lib.byteCells]
set_option maxRecDepth 100000 in
set_option maxHeartbeats 3200000 in
theorem text_any {B : Nat} {w : World} {es : List Dsr.Ev} {rs : List Dsr.Rl} {ve vr : Value} {rv : List Value} (h : GrAt B w es rs ve vr rv) (hs : Small es rs) (hS : SignsIn w) :
    Calls Tryz.prog 40 #[.agg #[ve, vr]] w fun x w' => x = .returned (strV (Dsr.text es rs)) ∧ Below w.heap.size w w' := by
  obtain ⟨ae, ce, rfl⟩ := owned_shape h.evs
  obtain ⟨ar, cr, rfl⟩ := owned_shape h.rls
  have H : Hid (GrAt B w es rs (.slice ae es.length ce) (.slice ar rs.length cr) rv) := h
  have HM : Hid (Small es rs) := hs
  have HS : Hid (SignsIn w) := hS
  have hez : (es.length : Int) ≤ 1000 := by have := hs.esl; omega
  have hrz : (rs.length : Int) ≤ 1000 := by have := hs.rsl; omega
  clear h hs hS
  go_enter Tryz.func40, Tryz.ntmps40
  go_wp2_with fail
  go_loopg [11] es.length (fun k i wr => ∃ n : Nat, i = .int .i64 n ∧ n + k = es.length ∧ Below (w.heap.size + 1) (w.alloc (.cells #[.slice ae es.length ce, .slice ar rs.length cr] 91)) wr ∧ w.heap.size + 1 < wr.heap.size ∧ Lib.IsBuilder 142 5 (w.heap.size + 1) (w.heap.size + 1) (bc ((es.take n).flatMap Dsr.evLine)) wr)
  case atStart =>
    refine ⟨0, rfl, by omega, (Below.refl _ _).alloc (by simp) _, by simp, .inl ⟨Nat.le_refl _, .slice none 0 0, ?_, World.ownsRow_nil _ _ _ _, by simp [Value.ownBlock]⟩⟩
    exact alloc_second _ _ _
  case round =>
    obtain ⟨n, rfl, hn, hb, hz, hB⟩ := hrel
    by_cases hlt : n < es.length
    · obtain ⟨e, he⟩ : ∃ e, es[n]? = some e := ⟨_, List.getElem?_eq_getElem hlt⟩
      obtain ⟨v, hv⟩ : ∃ v, rv[n]? = some v := ⟨_, List.getElem?_eq_getElem (by rw [H.out.len]; exact hlt)⟩
      have hw : Below w.heap.size w wr := ((Below.refl _ _).alloc (Nat.le_refl _) _).trans (hb.mono (by omega))
      have G := H.out.below (Nat.le_refl _) hw
      obtain ⟨ge, ce', hge, _, _⟩ := G.evs.form (by omega)
      injection hge with hge1 hge2 hge3
      subst hge1
      subst hge3
      have c0 := own_cell G.evs ((evCells_at es rv n e v 0 he hv (by omega)).trans rfl)
      have c1 := own_cell G.evs ((evCells_at es rv n e v 1 he hv (by omega)).trans rfl)
      have c2 := own_cell G.evs ((evCells_at es rv n e v 2 he hv (by omega)).trans rfl)
      have c3 := own_cell G.evs ((evCells_at es rv n e v 3 he hv (by omega)).trans rfl)
      have c4 := own_cell G.evs ((evCells_at es rv n e v 4 he hv (by omega)).trans rfl)
      have hm := HM.out.ev e (List.mem_of_getElem? he)
      have ho := G.rol n e v he hv
      obtain ⟨gr, cc, hvv, _, hgl⟩ := ho.form hm.1
      subst hvv
      rw [Nat.add_zero] at c0
      have hcc : e.roles.length ≤ cc := by
        rcases ho.2 with ⟨h1, _⟩ | ⟨g', cap', cur', h1, _, _, h2, _⟩
        · cases h1
        · injection h1 with _ _ h3; omega
      have HH : Hid (Below (w.heap.size + 1) (w.alloc (.cells #[.slice (some ⟨ge, 0, none⟩) es.length ce, .slice ar rs.length cr] 91)) wr ∧ Lib.IsBuilder 142 5 (w.heap.size + 1) (w.heap.size + 1) (bc ((es.take n).flatMap Dsr.evLine)) wr ∧ es[n]? = some e ∧ wr.ownsRow B 9 1 (.slice (some ⟨gr, 0, none⟩) e.roles.length cc) e.roles.length (e.roles.map strV)) := ⟨hb, hB, he, ho⟩
      have HG : Hid (0 < e.roles.length ∧ e.roles.length ≤ 100 ∧ (Dsr.joinC e.roles).length ≤ 100000 ∧ e.name.length ≤ 1000) := hm
      clear hb hB he ho hw G hm hv
      go_wp2_with fail
      refine (evLine_any e (fun j x hx => by
        exact own_cell (HH.out.2.2.2.alloc _) (by rw [List.getElem?_map, hx]; rfl)) (by simp; omega) HG.out.2.1 hcc HG.out.2.2.1 HG.out.2.2.2).mono ?_
      rintro x w1 ⟨rfl, hb1⟩
      have B1 : Hid (Below wr.heap.size wr w1) := below_alloc hb1
      clear hb1
      go_wp2_with fail
      refine (write_any (w.heap.size + 1) (w.heap.size + 1) (bc ((es.take n).flatMap Dsr.evLine)) ⟨(Dsr.evLine e).toArray⟩ w1 (isB_below HH.out.2.1 B1.out) ?_ (by have := B1.out.size; omega)).mono ?_
      · rw [bc_len]
        have h1 := Dsr.flat_take_le Dsr.evLine es (n + 1)
        rw [Dsr.flat_snoc _ _ _ _ HH.out.2.2.1, List.length_append] at h1
        have h2 := HM.out.tx
        rw [Dsr.text, List.length_append] at h2
        show _ + (Dsr.evLine e).toArray.size ≤ _
        rw [List.size_toArray]; omega
      rintro x w2 ⟨rfl, hB2, hb2⟩
      have B2 : Hid (Lib.IsBuilder 142 5 (w.heap.size + 1) (w.heap.size + 1) (bc ((es.take (n + 1)).flatMap Dsr.evLine)) w2 ∧ Below (w.heap.size + 1) w1 w2) := ⟨.inr (by rw [Dsr.flat_snoc _ _ _ _ HH.out.2.2.1, ← bc_append]; exact hB2), hb2⟩
      clear hB2 hb2
      go_wp2_with fail
      go_roundg (es.length - (n + 1))
      case measure => omega
      case rel => exact ⟨n + 1, by go_num, by omega, HH.out.1.trans ((B1.out.mono (by omega)).trans B2.out.2), by have := B1.out.size; have := B2.out.2.size; omega, B2.out.1⟩
    · have hn' : n = es.length := by omega
      subst hn'
      have hw : Below w.heap.size w wr := ((Below.refl _ _).alloc (Nat.le_refl _) _).trans (hb.mono (by omega))
      have q0 : wr.heap[w.heap.size]? = some (.cells #[.slice ae es.length ce, .slice ar rs.length cr] 91 (0, 0)) := (hb.block _ (by omega)).trans (heap_alloc_new _ _)
      obtain ⟨a0, a1, fa⟩ := cells2 q0
      rw [List.take_length] at hB
      have HB : Hid (Lib.IsBuilder 142 5 (w.heap.size + 1) (w.heap.size + 1) (bc (es.flatMap Dsr.evLine)) wr ∧ Below w.heap.size w wr) := ⟨hB, hw⟩
      clear hb hB hw q0 hlt
      rename World => wq
      go_wp2_with fail
      go_loopg [22] rs.length (fun k i wr => ∃ n : Nat, i = .int .i64 n ∧ n + k = rs.length ∧ Below (w.heap.size + 1) wq wr ∧ w.heap.size + 1 < wr.heap.size ∧ Lib.IsBuilder 142 5 (w.heap.size + 1) (w.heap.size + 1) (bc (es.flatMap Dsr.evLine ++ (rs.take n).flatMap Dsr.ruLine)) wr)
      case atStart => exact ⟨0, rfl, by omega, Below.refl _ _, hz, by simpa using HB.out.1⟩
      case round =>
        obtain ⟨n, rfl, hn2, hb, hz2, hB⟩ := hrel
        have hw : Below w.heap.size w wr := HB.out.2.trans (hb.mono (by omega))
        by_cases hlt : n < rs.length
        · obtain ⟨e, he⟩ : ∃ e, rs[n]? = some e := ⟨_, List.getElem?_eq_getElem hlt⟩
          have G := H.out.below (Nat.le_refl _) hw
          obtain ⟨ge, ce', hge, _, _⟩ := G.rls.form (by omega)
          injection hge with hge1 hge2 hge3
          subst hge1
          subst hge3
          have c0 := own_cell G.rls ((Dsr.flatM 3 rlC (fun _ => rfl) rs n e 0 he (by omega)).trans rfl)
          have c1 := own_cell G.rls ((Dsr.flatM 3 rlC (fun _ => rfl) rs n e 1 he (by omega)).trans rfl)
          have c2 := own_cell G.rls ((Dsr.flatM 3 rlC (fun _ => rfl) rs n e 2 he (by omega)).trans rfl)
          have hm := HM.out.ru e (List.mem_of_getElem? he)
          rw [Nat.add_zero] at c0
          have HH : Hid (Below (w.heap.size + 1) wq wr ∧ Lib.IsBuilder 142 5 (w.heap.size + 1) (w.heap.size + 1) (bc (es.flatMap Dsr.evLine ++ (rs.take n).flatMap Dsr.ruLine)) wr ∧ rs[n]? = some e ∧ Below w.heap.size w wr) := ⟨hb, hB, he, hw⟩
          have HG : Hid (e.kind < 5 ∧ e.left.length ≤ 1000 ∧ e.right.length ≤ 1000) := hm
          clear hb hB he hw G hm
          go_wp2_with fail
          refine (ruLine_any e HG.out.1 HG.out.2.1 HG.out.2.2 ((HS.out.below HH.out.2.2.2).below ((Below.refl _ _).alloc (Nat.le_refl _) _))).mono ?_
          rintro x w1 ⟨rfl, hb1⟩
          have B1 : Hid (Below wr.heap.size wr w1) := below_alloc hb1
          clear hb1
          go_wp2_with fail
          refine (write_any (w.heap.size + 1) (w.heap.size + 1) (bc (es.flatMap Dsr.evLine ++ (rs.take n).flatMap Dsr.ruLine)) ⟨(Dsr.ruLine e).toArray⟩ w1 (isB_below HH.out.2.1 B1.out) ?_ (by have := B1.out.size; omega)).mono ?_
          · rw [bc_len, List.length_append]
            have h1 := Dsr.flat_take_le Dsr.ruLine rs (n + 1)
            rw [Dsr.flat_snoc _ _ _ _ HH.out.2.2.1, List.length_append] at h1
            have h2 := HM.out.tx
            rw [Dsr.text, List.length_append] at h2
            show _ + (Dsr.ruLine e).toArray.size ≤ _
            rw [List.size_toArray]; omega
          rintro x w2 ⟨rfl, hB2, hb2⟩
          have B2 : Hid (Lib.IsBuilder 142 5 (w.heap.size + 1) (w.heap.size + 1) (bc (es.flatMap Dsr.evLine ++ (rs.take (n + 1)).flatMap Dsr.ruLine)) w2 ∧ Below (w.heap.size + 1) w1 w2) := ⟨.inr (by rw [Dsr.flat_snoc _ _ _ _ HH.out.2.2.1, ← List.append_assoc, ← bc_append]; exact hB2), hb2⟩
          clear hB2 hb2
          go_wp2_with fail
          go_roundg (rs.length - (n + 1))
          case measure => omega
          case rel => exact ⟨n + 1, by go_num, by omega, HH.out.1.trans ((B1.out.mono (by omega)).trans B2.out.2), by have := B1.out.size; have := B2.out.2.size; omega, B2.out.1⟩
        · have hn' : n = rs.length := by omega
          subst hn'
          rw [List.take_length] at hB
          have HC : Hid (Lib.IsBuilder 142 5 (w.heap.size + 1) (w.heap.size + 1) (bc (Dsr.text es rs)) wr ∧ Below w.heap.size w wr) := ⟨hB, hw⟩
          clear hb hB hw hlt
          go_wp2_with fail
          refine (Tryz.Builder_String_any (w.heap.size + 1) (w.heap.size + 1) (Dsr.text es rs) _ HC.out.1 (by omega)).mono ?_
          rintro x w2 ⟨rfl, hb2⟩
          have HD : Hid (Below w.heap.size w w2) := HC.out.2.trans (hb2.mono (by omega))
          clear hb2
          go_wp2_with fail
          go_ret
          exact ⟨rfl, HD.out⟩
end Go.Proofs.YtjmcokcdaddpcaaGreatDoor
