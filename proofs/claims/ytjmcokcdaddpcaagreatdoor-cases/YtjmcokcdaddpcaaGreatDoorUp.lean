import Derived.Test.YtjmcokcdaddpcaaGreatDoorTxC
import Derived.Test.YtjmcokcdaddpcaaGreatDoorUa
import Derived.Lib.AppendIntMem
import Derived.Deep.RegionHeld3
import Derived.Sort.OwnSorted
import Derived.Shelf.SlicesE.Kit
import Derived.Laws.IdiomCopy
set_option linter.unusedVariables false
set_option linter.unusedSimpArgs false
namespace Go.Proofs.YtjmcokcdaddpcaaGreatDoor
open Go.RowKit
/-- A graph's lists in memory. -/
structure GrAt (B : Nat) (w : World) (es : List Dsr.Ev) (rs : List Dsr.Rl) (ve vr : Value) (rv : List Value) : Prop where
  evs : w.ownsRow B 144 5 ve es.length (evCells es rv)
  rls : w.ownsRow B 150 3 vr rs.length (rs.flatMap rlC)
  len : rv.length = es.length
  rol : ∀ (i : Nat) (e : Dsr.Ev) (v : Value), es[i]? = some e → rv[i]? = some v → w.ownsRow B 9 1 v e.roles.length (e.roles.map strV)
theorem evCells_at : ∀ (es : List Dsr.Ev) (rv : List Value) (k : Nat) (e : Dsr.Ev) (v : Value) (j : Nat), es[k]? = some e → rv[k]? = some v → j < 5 → (evCells es rv)[k * 5 + j]? = (evC e v)[j]?
  | [], _, k, e, v, j, h, _, _ => by simp at h
  | a :: es, [], k, e, v, j, _, h, _ => by simp at h
  | a :: es, b :: rv, 0, e, v, j, h, h', hj => by
    have e1 : a = e := by simpa using h
    have e2 : b = v := by simpa using h'
    subst e1 e2
    rw [evCells, Nat.zero_mul, Nat.zero_add, List.getElem?_append_left (by simpa [evC] using hj)]
  | a :: es, b :: rv, k + 1, e, v, j, h, h', hj => by
    have e1 : es[k]? = some e := by simpa using h
    have e2 : rv[k]? = some v := by simpa using h'
    have e3 : (k + 1) * 5 + j = 5 + (k * 5 + j) := by omega
    rw [evCells, e3, List.getElem?_append_right (by simp [evC])]
    have e4 : 5 + (k * 5 + j) - (evC a b).length = k * 5 + j := by simp [evC]
    rw [e4]
    exact evCells_at es rv k e v j e1 e2 hj
theorem own_cell {w : World} {B : Nat} {e : TypeId} {m g c n : Nat} {xs : List Value} (h : w.ownsRow B e m (.slice (some ⟨g, 0, none⟩) n c) n xs) {j : Nat} {u : Value} (hu : xs[j]? = some u) : w.cell? ⟨g, j, none⟩ = some u := by
  have := h.cells (g := g) rfl j u hu
  simpa [Addr.add_lit] using this
theorem isB_below {T e : TypeId} {B b : Nat} {bs : List Value} {w w' : World} (h : Lib.IsBuilder T e B b bs w) (hb : Below w.heap.size w w') : Lib.IsBuilder T e B b bs w' := by
  rcases h with ⟨h1, v, h2, h3, h4⟩ | ⟨h1, v, h2, h3, h4⟩
  · exact .inl ⟨h1, v, by rw [hb.block _ (Array.getElem?_eq_some_iff.1 h2).1]; exact h2, ownsRow_of_block h3 (fun k hk _ => hb.block k hk), h4⟩
  · exact .inr ⟨h1, v, by rw [hb.block _ (Array.getElem?_eq_some_iff.1 h2).1]; exact h2, ownsRow_of_block h3 (fun k hk _ => hb.block k hk), h4⟩
/-- What a graph's text wants of its events and rules. -/
structure Small (es : List Dsr.Ev) (rs : List Dsr.Rl) : Prop where
  ev : ∀ e ∈ es, 0 < e.roles.length ∧ e.roles.length ≤ 100 ∧ (Dsr.joinC e.roles).length ≤ 100000 ∧ e.name.length ≤ 1000
  ru : ∀ r ∈ rs, r.kind < 5 ∧ r.left.length ≤ 1000 ∧ r.right.length ≤ 1000
  esl : es.length ≤ 1000
  rsl : rs.length ≤ 1000
  tx : (Dsr.text es rs).length ≤ 1000000000
theorem GrAt.below {B : Nat} {w w' : World} {es : List Dsr.Ev} {rs : List Dsr.Rl} {ve vr : Value} {rv : List Value} (h : GrAt B w es rs ve vr rv) {N : Nat} (hN : w.heap.size ≤ N) (hb : Below N w w') : GrAt B w' es rs ve vr rv :=
  ⟨ownsRow_of_block h.evs (fun k hk _ => hb.block k (by omega)), ownsRow_of_block h.rls (fun k hk _ => hb.block k (by omega)), h.len, fun i e v he hv => ownsRow_of_block (h.rol i e v he hv) (fun k hk _ => hb.block k (by omega))⟩
abbrev bc (l : List UInt8) : List Value := Lib.byteCells l
theorem bc_append (a b : List UInt8) : bc a ++ Lib.strCells ⟨b.toArray⟩ = bc (a ++ b) := by
  rw [Lib.strCells_toArray]; simp [bc, Lib.byteCells]
theorem bc_len (a : List UInt8) : (bc a).length = a.length := by simp [bc, Lib.byteCells]
set_option maxRecDepth 100000 in
set_option maxHeartbeats 3200000 in
theorem text_any {B : Nat} {w : World} {es : List Dsr.Ev} {rs : List Dsr.Rl} {ve vr : Value} {rv : List Value} (h : GrAt B w es rs ve vr rv) (hs : Small es rs) (hS : SignsIn w) :
    Calls Tryz.prog 40 #[.agg #[ve, vr]] w fun x w' => x = .returned (strV (Dsr.text es rs)) ∧ Below w.heap.size w w' := by
  obtain ⟨ae, ce, rfl⟩ := owned_shape h.evs
  obtain ⟨ar, cr, rfl⟩ := owned_shape h.rls
  have H : Hid (GrAt B w es rs (.slice ae es.length ce) (.slice ar rs.length cr) rv) := h
  have HM : Hid (Small es rs) := hs
  have HS : Hid (SignsIn w) := hS
  have hez : (es.length : Int) ≤ 1000 := by have := hs.esl; omega
  have hrz : (rs.length : Int) ≤ 1000 := by have := hs.rsl; omega
  clear h hs hS
  go_enter Tryz.func40, Tryz.ntmps40
  go_wp2_with fail
  go_loopg [11] es.length (fun k i wr => ∃ n : Nat, i = .int .i64 n ∧ n + k = es.length ∧ Below (w.heap.size + 1) (w.alloc (.cells #[.slice ae es.length ce, .slice ar rs.length cr] 91)) wr ∧ w.heap.size + 1 < wr.heap.size ∧ Lib.IsBuilder 142 5 (w.heap.size + 1) (w.heap.size + 1) (bc ((es.take n).flatMap Dsr.evLine)) wr)
  case atStart =>
    refine ⟨0, rfl, by omega, (Below.refl _ _).alloc (by simp) _, by simp, .inl ⟨Nat.le_refl _, .slice none 0 0, ?_, World.ownsRow_nil _ _ _ _, by simp [Value.ownBlock]⟩⟩
    exact alloc_second _ _ _
  case round =>
    obtain ⟨n, rfl, hn, hb, hz, hB⟩ := hrel
    by_cases hlt : n < es.length
    · obtain ⟨e, he⟩ : ∃ e, es[n]? = some e := ⟨_, List.getElem?_eq_getElem hlt⟩
      obtain ⟨v, hv⟩ : ∃ v, rv[n]? = some v := ⟨_, List.getElem?_eq_getElem (by rw [H.out.len]; exact hlt)⟩
      have hw : Below w.heap.size w wr := ((Below.refl _ _).alloc (Nat.le_refl _) _).trans (hb.mono (by omega))
      have G := H.out.below (Nat.le_refl _) hw
      obtain ⟨ge, ce', hge, _, _⟩ := G.evs.form (by omega)
      injection hge with hge1 hge2 hge3
      subst hge1
      subst hge3
      have c0 := own_cell G.evs ((evCells_at es rv n e v 0 he hv (by omega)).trans rfl)
      have c1 := own_cell G.evs ((evCells_at es rv n e v 1 he hv (by omega)).trans rfl)
      have c2 := own_cell G.evs ((evCells_at es rv n e v 2 he hv (by omega)).trans rfl)
      have c3 := own_cell G.evs ((evCells_at es rv n e v 3 he hv (by omega)).trans rfl)
      have c4 := own_cell G.evs ((evCells_at es rv n e v 4 he hv (by omega)).trans rfl)
      have hm := HM.out.ev e (List.mem_of_getElem? he)
      have ho := G.rol n e v he hv
      obtain ⟨gr, cc, hvv, _, hgl⟩ := ho.form hm.1
      subst hvv
      rw [Nat.add_zero] at c0
      have hcc : e.roles.length ≤ cc := by
        rcases ho.2 with ⟨h1, _⟩ | ⟨g', cap', cur', h1, _, _, h2, _⟩
        · cases h1
        · injection h1 with _ _ h3; omega
      have HH : Hid (Below (w.heap.size + 1) (w.alloc (.cells #[.slice (some ⟨ge, 0, none⟩) es.length ce, .slice ar rs.length cr] 91)) wr ∧ Lib.IsBuilder 142 5 (w.heap.size + 1) (w.heap.size + 1) (bc ((es.take n).flatMap Dsr.evLine)) wr ∧ es[n]? = some e ∧ wr.ownsRow B 9 1 (.slice (some ⟨gr, 0, none⟩) e.roles.length cc) e.roles.length (e.roles.map strV)) := ⟨hb, hB, he, ho⟩
      have HG : Hid (0 < e.roles.length ∧ e.roles.length ≤ 100 ∧ (Dsr.joinC e.roles).length ≤ 100000 ∧ e.name.length ≤ 1000) := hm
      clear hb hB he ho hw G hm hv
      go_wp2_with fail
      refine (evLine_any e (fun j x hx => by
        exact own_cell (HH.out.2.2.2.alloc _) (by rw [List.getElem?_map, hx]; rfl)) (by simp; omega) HG.out.2.1 hcc HG.out.2.2.1 HG.out.2.2.2).mono ?_
      rintro x w1 ⟨rfl, hb1⟩
      have B1 : Hid (Below wr.heap.size wr w1) := below_alloc hb1
      clear hb1
      go_wp2_with fail
      refine (write_any (w.heap.size + 1) (w.heap.size + 1) (bc ((es.take n).flatMap Dsr.evLine)) ⟨(Dsr.evLine e).toArray⟩ w1 (isB_below HH.out.2.1 B1.out) ?_ (by have := B1.out.size; omega)).mono ?_
      · rw [bc_len]
        have h1 := Dsr.flat_take_le Dsr.evLine es (n + 1)
        rw [Dsr.flat_snoc _ _ _ _ HH.out.2.2.1, List.length_append] at h1
        have h2 := HM.out.tx
        rw [Dsr.text, List.length_append] at h2
        show _ + (Dsr.evLine e).toArray.size ≤ _
        rw [List.size_toArray]; omega
      rintro x w2 ⟨rfl, hB2, hb2⟩
      have B2 : Hid (Lib.IsBuilder 142 5 (w.heap.size + 1) (w.heap.size + 1) (bc ((es.take (n + 1)).flatMap Dsr.evLine)) w2 ∧ Below (w.heap.size + 1) w1 w2) := ⟨.inr (by rw [Dsr.flat_snoc _ _ _ _ HH.out.2.2.1, ← bc_append]; exact hB2), hb2⟩
      clear hB2 hb2
      go_wp2_with fail
      go_roundg (es.length - (n + 1))
      case measure => omega
      case rel => exact ⟨n + 1, by go_num, by omega, HH.out.1.trans ((B1.out.mono (by omega)).trans B2.out.2), by have := B1.out.size; have := B2.out.2.size; omega, B2.out.1⟩
    · have hn' : n = es.length := by omega
      subst hn'
      have hw : Below w.heap.size w wr := ((Below.refl _ _).alloc (Nat.le_refl _) _).trans (hb.mono (by omega))
      have q0 : wr.heap[w.heap.size]? = some (.cells #[.slice ae es.length ce, .slice ar rs.length cr] 91 (0, 0)) := (hb.block _ (by omega)).trans (heap_alloc_new _ _)
      obtain ⟨a0, a1, fa⟩ := cells2 q0
      rw [List.take_length] at hB
      have HB : Hid (Lib.IsBuilder 142 5 (w.heap.size + 1) (w.heap.size + 1) (bc (es.flatMap Dsr.evLine)) wr ∧ Below w.heap.size w wr) := ⟨hB, hw⟩
      clear hb hB hw q0 hlt
      rename World => wq
      go_wp2_with fail
      go_loopg [22] rs.length (fun k i wr => ∃ n : Nat, i = .int .i64 n ∧ n + k = rs.length ∧ Below (w.heap.size + 1) wq wr ∧ w.heap.size + 1 < wr.heap.size ∧ Lib.IsBuilder 142 5 (w.heap.size + 1) (w.heap.size + 1) (bc (es.flatMap Dsr.evLine ++ (rs.take n).flatMap Dsr.ruLine)) wr)
      case atStart => exact ⟨0, rfl, by omega, Below.refl _ _, hz, by simpa using HB.out.1⟩
      case round =>
        obtain ⟨n, rfl, hn2, hb, hz2, hB⟩ := hrel
        have hw : Below w.heap.size w wr := HB.out.2.trans (hb.mono (by omega))
        by_cases hlt : n < rs.length
        · obtain ⟨e, he⟩ : ∃ e, rs[n]? = some e := ⟨_, List.getElem?_eq_getElem hlt⟩
          have G := H.out.below (Nat.le_refl _) hw
          obtain ⟨ge, ce', hge, _, _⟩ := G.rls.form (by omega)
          injection hge with hge1 hge2 hge3
          subst hge1
          subst hge3
          have c0 := own_cell G.rls ((Dsr.flatM 3 rlC (fun _ => rfl) rs n e 0 he (by omega)).trans rfl)
          have c1 := own_cell G.rls ((Dsr.flatM 3 rlC (fun _ => rfl) rs n e 1 he (by omega)).trans rfl)
          have c2 := own_cell G.rls ((Dsr.flatM 3 rlC (fun _ => rfl) rs n e 2 he (by omega)).trans rfl)
          have hm := HM.out.ru e (List.mem_of_getElem? he)
          rw [Nat.add_zero] at c0
          have HH : Hid (Below (w.heap.size + 1) wq wr ∧ Lib.IsBuilder 142 5 (w.heap.size + 1) (w.heap.size + 1) (bc (es.flatMap Dsr.evLine ++ (rs.take n).flatMap Dsr.ruLine)) wr ∧ rs[n]? = some e ∧ Below w.heap.size w wr) := ⟨hb, hB, he, hw⟩
          have HG : Hid (e.kind < 5 ∧ e.left.length ≤ 1000 ∧ e.right.length ≤ 1000) := hm
          clear hb hB he hw G hm
          go_wp2_with fail
          refine (ruLine_any e HG.out.1 HG.out.2.1 HG.out.2.2 ((HS.out.below HH.out.2.2.2).below ((Below.refl _ _).alloc (Nat.le_refl _) _))).mono ?_
          rintro x w1 ⟨rfl, hb1⟩
          have B1 : Hid (Below wr.heap.size wr w1) := below_alloc hb1
          clear hb1
          go_wp2_with fail
          refine (write_any (w.heap.size + 1) (w.heap.size + 1) (bc (es.flatMap Dsr.evLine ++ (rs.take n).flatMap Dsr.ruLine)) ⟨(Dsr.ruLine e).toArray⟩ w1 (isB_below HH.out.2.1 B1.out) ?_ (by have := B1.out.size; omega)).mono ?_
          · rw [bc_len, List.length_append]
            have h1 := Dsr.flat_take_le Dsr.ruLine rs (n + 1)
            rw [Dsr.flat_snoc _ _ _ _ HH.out.2.2.1, List.length_append] at h1
            have h2 := HM.out.tx
            rw [Dsr.text, List.length_append] at h2
            show _ + (Dsr.ruLine e).toArray.size ≤ _
            rw [List.size_toArray]; omega
          rintro x w2 ⟨rfl, hB2, hb2⟩
          have B2 : Hid (Lib.IsBuilder 142 5 (w.heap.size + 1) (w.heap.size + 1) (bc (es.flatMap Dsr.evLine ++ (rs.take (n + 1)).flatMap Dsr.ruLine)) w2 ∧ Below (w.heap.size + 1) w1 w2) := ⟨.inr (by rw [Dsr.flat_snoc _ _ _ _ HH.out.2.2.1, ← List.append_assoc, ← bc_append]; exact hB2), hb2⟩
          clear hB2 hb2
          go_wp2_with fail
          go_roundg (rs.length - (n + 1))
          case measure => omega
          case rel => exact ⟨n + 1, by go_num, by omega, HH.out.1.trans ((B1.out.mono (by omega)).trans B2.out.2), by have := B1.out.size; have := B2.out.2.size; omega, B2.out.1⟩
        · have hn' : n = rs.length := by omega
          subst hn'
          rw [List.take_length] at hB
          have HC : Hid (Lib.IsBuilder 142 5 (w.heap.size + 1) (w.heap.size + 1) (bc (Dsr.text es rs)) wr ∧ Below w.heap.size w wr) := ⟨hB, hw⟩
          clear hb hB hw hlt
          go_wp2_with fail
          refine (Tryz.Builder_String_any (w.heap.size + 1) (w.heap.size + 1) (Dsr.text es rs) _ HC.out.1 (by omega)).mono ?_
          rintro x w2 ⟨rfl, hb2⟩
          have HD : Hid (Below w.heap.size w w2) := HC.out.2.trans (hb2.mono (by omega))
          clear hb2
          go_wp2_with fail
          go_ret
          exact ⟨rfl, HD.out⟩
end Go.Proofs.YtjmcokcdaddpcaaGreatDoor
set_option linter.unusedVariables false
set_option linter.unusedSimpArgs false
namespace Go.Proofs.YtjmcokcdaddpcaaGreatDoor
open Go.RowKit
def cmpNat (x y : Nat) : Int := if x < y then -1 else if y < x then 1 else 0
set_option maxRecDepth 100000 in
set_option maxHeartbeats 1600000 in
theorem cCompare_any (x y : Nat) (w : World) : Calls Tryz.prog 158 #[.int .u8 x, .int .u8 y] w fun e w' => e = .returned (.int .i64 (cmpNat x y)) ∧ w' = w := by
  rcases Nat.lt_trichotomy x y with h | h | h
  · have h1 : (x : Int) < y := by omega
    have h2 : cmpNat x y = -1 := by simp [cmpNat, h]
    have H2 : Hid (cmpNat x y = -1) := h2
    clear h2
    go_enter Tryz.func158, Tryz.ntmps158
    go_wp2
    go_ret
    exact ⟨by rw [H2.out]; rfl, rfl⟩
  · subst h
    have h2 : cmpNat x x = 0 := by simp [cmpNat]
    have H2 : Hid (cmpNat x x = 0) := h2
    clear h2
    go_enter Tryz.func158, Tryz.ntmps158
    go_wp2
    go_ret
    exact ⟨by rw [H2.out]; rfl, rfl⟩
  · have h1 : (y : Int) < x := by omega
    have h2 : cmpNat x y = 1 := by simp [cmpNat]; omega
    have H2 : Hid (cmpNat x y = 1) := h2
    clear h2
    go_enter Tryz.func158, Tryz.ntmps158
    go_wp2
    go_ret
    exact ⟨by rw [H2.out]; rfl, rfl⟩
def or3 (a b c : Int) : Int := if a ≠ 0 then a else if b ≠ 0 then b else c
set_option maxRecDepth 100000 in
set_option maxHeartbeats 1600000 in
theorem cOr_any (a b c : Int) (g k : Nat) (w : World) (c0 : w.cell? ⟨g, 0, none⟩ = some (.int .i64 a)) (c1 : w.cell? ⟨g, 1, none⟩ = some (.int .i64 b)) (c2 : w.cell? ⟨g, 2, none⟩ = some (.int .i64 c)) :
    Calls Tryz.prog 157 #[.slice (some ⟨g, 0, none⟩) 3 k] w fun e w' => e = .returned (.int .i64 (or3 a b c)) ∧ w' = w := by
  by_cases ha : a = 0
  · have ha' : (a != 0) = false := by simp [ha]
    by_cases hb : b = 0
    · have hb' : (b != 0) = false := by simp [hb]
      by_cases hc : c = 0
      · have hc' : (c != 0) = false := by simp [hc]
        have H : Hid (or3 a b c = 0) := by show _ = _; simp [or3, ha, hb, hc]
        clear ha hb hc
        go_enter Tryz.func157, Tryz.ntmps157
        go_wp2_with fail
        refine wp_loop_rounds 4 ?_
        rw [rounds_succ]; go_wp2_with fail
        rw [rounds_succ]; go_wp2_with fail
        rw [rounds_succ]; go_wp2_with fail
        rw [rounds_succ]; go_wp2_with fail
        go_ret
        exact ⟨by rw [H.out]; rfl, rfl⟩
      · have hc' : (c != 0) = true := by simp [hc]
        have H : Hid (or3 a b c = c) := by show _ = _; simp [or3, ha, hb]
        clear ha hb hc
        go_enter Tryz.func157, Tryz.ntmps157
        go_wp2_with fail
        refine wp_loop_rounds 4 ?_
        rw [rounds_succ]; go_wp2_with fail
        rw [rounds_succ]; go_wp2_with fail
        rw [rounds_succ]; go_wp2_with fail
        go_ret
        exact ⟨by rw [H.out]; rfl, rfl⟩
    · have hb' : (b != 0) = true := by simp [hb]
      have H : Hid (or3 a b c = b) := by show _ = _; simp [or3, ha, hb]
      clear ha hb
      go_enter Tryz.func157, Tryz.ntmps157
      go_wp2_with fail
      refine wp_loop_rounds 4 ?_
      rw [rounds_succ]; go_wp2_with fail
      rw [rounds_succ]; go_wp2_with fail
      go_ret
      exact ⟨by rw [H.out]; rfl, rfl⟩
  · have ha' : (a != 0) = true := by simp [ha]
    have H : Hid (or3 a b c = a) := by show _ = _; simp [or3, ha]
    clear ha
    go_enter Tryz.func157, Tryz.ntmps157
    go_wp2_with fail
    refine wp_loop_rounds 4 ?_
    rw [rounds_succ]; go_wp2_with fail
    go_ret
    exact ⟨by rw [H.out]; rfl, rfl⟩
end Go.Proofs.YtjmcokcdaddpcaaGreatDoor
namespace Go.Proofs.YtjmcokcdaddpcaaGreatDoor
open Go.RowKit
def cmpS (a b : List UInt8) : Int := Lib.compareBytes a b
theorem sCompare_any (a b : List UInt8) (w : World) : Calls Tryz.prog 105 #[strV a, strV b] w fun e w' => e = .returned (.int .i64 (cmpS a b)) ∧ w' = w := by
  have h := Tryz.strings_Compare ⟨a.toArray⟩ ⟨b.toArray⟩ w
  exact h
def cmpRl (a b : Dsr.Rl) : Int := or3 (cmpS a.left b.left) (cmpS a.right b.right) (cmpNat a.kind b.kind)
set_option maxRecDepth 100000 in
set_option maxHeartbeats 3200000 in
theorem byName_any (a b : Dsr.Ev) (va vb : Value) (ha : ∃ p n c, va = .slice p n c) (hb : ∃ p n c, vb = .slice p n c) (w : World) :
    Calls Tryz.prog 104 #[.agg #[strV a.name, va, .bool a.done, .bool a.inn, .bool a.due], .agg #[strV b.name, vb, .bool b.done, .bool b.inn, .bool b.due]] w fun e w' => e = .returned (.int .i64 (cmpS a.name b.name)) ∧ w' = (w.alloc (.cells #[strV a.name, va, .bool a.done, .bool a.inn, .bool a.due] 144)).alloc (.cells #[strV b.name, vb, .bool b.done, .bool b.inn, .bool b.due] 144) := by
  obtain ⟨p, n, c, rfl⟩ := ha
  obtain ⟨p', n', c', rfl⟩ := hb
  go_enter Tryz.func104, Tryz.ntmps104
  go_wp2_with (go_at_call 105; refine (sCompare_any _ _ _).mono ?_; rintro e w' ⟨rfl, rfl⟩)
  go_ret
  exact ⟨rfl, rfl⟩
theorem cOr_at (a b c : Int) (w : World) (o o' : Obj) (T : TypeId) :
    Calls Tryz.prog 157 #[.slice (some ⟨w.heap.size + 1 + 1, 0, none⟩) 3 3] (((w.alloc o).alloc o').alloc (.cells #[.int .i64 a, .int .i64 b, .int .i64 c] T)).drew fun e w' => e = .returned (.int .i64 (or3 a b c)) ∧ w' = (((w.alloc o).alloc o').alloc (.cells #[.int .i64 a, .int .i64 b, .int .i64 c] T)).drew := by
  have h : (((w.alloc o).alloc o').alloc (.cells #[.int .i64 a, .int .i64 b, .int .i64 c] T)).drew.heap[w.heap.size + 1 + 1]? = some (.cells #[.int .i64 a, .int .i64 b, .int .i64 c] T (0, 0)) := by
    have e : ((w.alloc o).alloc o').heap.size = w.heap.size + 1 + 1 := by simp
    have h := heap_alloc_new ((w.alloc o).alloc o') (.cells #[.int .i64 a, .int .i64 b, .int .i64 c] T)
    rw [e] at h; exact h
  obtain ⟨c0, c1, c2, _⟩ := cells3 h
  exact cOr_any a b c _ 3 _ c0 c1 c2
theorem grow3 (w : World) (o o' o'' : Obj) : (((w.alloc o).alloc o').alloc o'').drew = Sort.grow (w.drewN 1) #[o, o', o''] := by
  have e : (((w.heap.push o).push o').push o'') = w.heap ++ #[o, o', o''] := by apply Array.ext'; simp
  show ({ w with heap := ((w.heap.push o).push o').push o'', drawn := w.drawn + 1 } : World) = { w with heap := w.heap ++ #[o, o', o''], drawn := w.drawn + 1 }
  rw [e]
set_option maxRecDepth 100000 in
set_option maxHeartbeats 3200000 in
theorem compareRules_any (a b : Dsr.Rl) (w : World) :
    Calls Tryz.prog 108 #[.agg #[strV a.left, strV a.right, .int .u8 a.kind], .agg #[strV b.left, strV b.right, .int .u8 b.kind]] w fun e w' => e = .returned (.int .i64 (cmpRl a b)) ∧ ∃ q os, w' = Sort.grow (w.drewN q) os := by
  go_enter Tryz.func108, Tryz.ntmps108
  go_wp2_with fail
  go_region_held3 (fun w' => w'.cell? ⟨w.heap.size, 0, none⟩ = some (strV a.left) ∧ w'.cell? ⟨w.heap.size, 1, none⟩ = some (strV a.right) ∧ w'.cell? ⟨w.heap.size, 2, none⟩ = some (.int .u8 a.kind) ∧ w'.cell? ⟨w.heap.size + 1, 0, none⟩ = some (strV b.left) ∧ w'.cell? ⟨w.heap.size + 1, 1, none⟩ = some (strV b.right) ∧ w'.cell? ⟨w.heap.size + 1, 2, none⟩ = some (.int .u8 b.kind)) (go_keep)
    (first
      | (go_at_call 105; refine (sCompare_any _ _ _).mono ?_; rintro e w' ⟨rfl, rfl⟩)
      | (go_at_call 158; refine (cCompare_any _ _ _).mono ?_; rintro e w' ⟨rfl, rfl⟩)
      | (go_at_call 157; refine (cOr_at (cmpS a.left b.left) (cmpS a.right b.right) (cmpNat a.kind b.kind) _ _ _ _).mono ?_; rintro e w' ⟨rfl, rfl⟩))
  all_goals
    go_wp2_with fail
    go_ret
    refine ⟨rfl, 1, #[.cells #[strV a.left, strV a.right, .int .u8 a.kind] 150, .cells #[strV b.left, strV b.right, .int .u8 b.kind] 150, .cells #[.int .i64 (cmpS a.left b.left), .int .i64 (cmpS a.right b.right), .int .i64 (cmpNat a.kind b.kind)] 3], ?_⟩
    exact grow3 w _ _ _
end Go.Proofs.YtjmcokcdaddpcaaGreatDoor
set_option linter.unusedVariables false
set_option linter.unusedSimpArgs false
namespace Go.Proofs.YtjmcokcdaddpcaaGreatDoor
open Go.RowKit
section
variable {α : Type} [Inhabited α]
theorem flat_get (enc : α → List Value) (k : Nat) (hk : ∀ x, (enc x).length = k) (ds : List α) (j : Nat) (hj : j < ds.length * k) : (ds.flatMap enc)[j]? = some ((enc ds.toArray[j / k]!)[j % k]!) := by
  have k0 : 0 < k := by
    rcases Nat.eq_zero_or_pos k with h | h
    · subst h; simp at hj
    · exact h
  have hq : j / k < ds.length := Nat.div_lt_of_lt_mul (by rw [Nat.mul_comm]; exact hj)
  have hm : j % k < k := Nat.mod_lt _ k0
  have e : j = j / k * k + j % k := by rw [Nat.mul_comm]; exact (Nat.div_add_mod j k).symm
  have h := Dsr.flatM k enc hk ds (j / k) ds[j / k] (j % k) (List.getElem?_eq_getElem hq) hm
  rw [← e] at h
  rw [h]
  have e2 : ds.toArray[j / k]! = ds[j / k] := by rw [getElem!_pos _ _ (by simpa using hq)]; simp
  rw [e2, List.getElem?_eq_getElem (by rw [hk]; exact hm), getElem!_pos _ _ (by rw [hk]; exact hm)]
theorem holdsK_of {w : World} {g n k : Nat} {cur : Array Value} {e : TypeId} (enc : α → List Value) (hk : ∀ x, (enc x).length = k) (ds : List α) (hn : ds.length = n) (hb : w.heap[g]? = some (.cells cur e (0, 0))) (ht : cur.toList.take (n * k) = ds.flatMap enc) : Sort.HoldsK enc k w g 0 ds.toArray := by
  intro j hj
  rw [Sort.size_flatK] at hj
  have hj' : j < ds.length * k := by simpa using hj
  refine ⟨?_, by simp [World.frozen?, hb]⟩
  rw [Sort.get_flatK _ _ _ _ hj, Nat.zero_add, cell_of_row w g j cur e _ hb]
  have h := flat_get enc k hk ds j hj'
  rw [← ht, List.getElem?_take, if_pos (by rw [← hn]; exact hj')] at h
  show cur[j]? = some _
  rw [← Array.getElem?_toList, h]
  rfl
theorem heap_sortK {w : World} {g m k : Nat} {os : Array Obj} {cur : Array Value} {e : TypeId} {fr : Nat × Nat} (enc : α → List Value) (d : Array α) (hb : w.heap[g]? = some (.cells cur e fr)) :
    (sortWorldK enc k w g 0 m d os).heap[g]? = some (.cells (Sort.putCells id 0 (Sort.flatK enc k d) cur) e fr) := by
  have hg : g < w.heap.size := (Array.getElem?_eq_some_iff.1 hb).1
  unfold sortWorldK Sort.putRowK
  rw [Sort.heap_grow_old _ _ (by simpa [Sort.putRow, Sort.mapBlock, Sort.ahead] using hg)]
  simp [Sort.putRow, Sort.mapBlock, Sort.ahead, Array.getElem?_modify, hb, Sort.onCells]
theorem grown_sortK {w : World} {g m k : Nat} {os : Array Obj} (enc : α → List Value) (d : Array α) : w.grownBy (sortWorldK enc k w g 0 m d os) (some g) := by
  refine ⟨rfl, rfl, rfl, by simp [sortWorldK, Sort.putRowK, Sort.putRow, Sort.mapBlock, Sort.ahead], fun j hj hne => ?_⟩
  unfold sortWorldK Sort.putRowK
  rw [Sort.heap_grow_old _ _ (by simpa [Sort.putRow, Sort.mapBlock, Sort.ahead] using hj)]
  have : g ≠ j := fun e => hne (by rw [e])
  simp [Sort.putRow, Sort.mapBlock, Sort.ahead, Array.getElem?_modify, this]
theorem owns_sortK {w : World} {B g cap n m k : Nat} {e : TypeId} {os : Array Obj} {cur : Array Value} (enc : α → List Value) (hk : ∀ x, (enc x).length = k) (d : Array α) (hl : d.size = n) (hbase : B ≤ g) (hb : w.heap[g]? = some (.cells cur e (0, 0)))
    (h1 : n ≤ cap) (h2 : cap ≤ maxLen) (h3 : cur.size = cap * k) :
    (sortWorldK enc k w g 0 m d os).ownsRow B e k (.slice (some ⟨g, 0, none⟩) n cap) n (d.toList.flatMap enc) := by
  have hlen : (d.toList.flatMap enc).length = n * k := by rw [Dsr.flatLen enc k hk]; simp [hl]
  have hnk : n * k ≤ cap * k := Nat.mul_le_mul_right _ h1
  refine ⟨hlen, .inr ⟨g, cap, _, rfl, hbase, heap_sortK enc d hb, h1, h2, by simp [Sort.putCells, h3], ?_⟩⟩
  apply List.ext_getElem?
  intro j
  by_cases hj : j < n * k
  · rw [List.getElem?_take, if_pos hj, flat_get enc k hk d.toList j (by simpa [hl] using hj), Array.getElem?_toList]
    have hjc : j < cur.size := by omega
    have hjd : j < d.size * k := by rw [hl]; exact hj
    simp only [Sort.putCells, Array.getElem?_mapIdx, Array.getElem?_eq_getElem hjc, Option.map_some]
    rw [if_pos ⟨Nat.zero_le _, by simpa using hjd⟩, Nat.sub_zero, Sort.get_flatK _ _ _ _ hjd]
    rfl
  · rw [List.getElem?_take, if_neg hj, List.getElem?_eq_none (by omega)]
end
end Go.Proofs.YtjmcokcdaddpcaaGreatDoor
set_option linter.unusedVariables false
set_option linter.unusedSimpArgs false
namespace Go.Proofs.YtjmcokcdaddpcaaGreatDoor
open Go.RowKit
theorem cmpS_eq : ∀ a b : List UInt8, cmpS a b = Dsr.cmpB a b := by
  intro a b
  unfold cmpS
  induction a generalizing b with
  | nil => cases b <;> rfl
  | cons x a ih =>
    cases b with
    | nil => rfl
    | cons y b => rw [Lib.compareBytes, Dsr.cmpB, ih b]
/-- An event, and where its roles lie. -/
abbrev EvS := Dsr.Ev × (Option Addr × Nat × Nat)
def slV (p : Option Addr × Nat × Nat) : Value := .slice p.1 p.2.1 p.2.2
def encE (p : EvS) : List Value := evC p.1 (slV p.2)
def cfE (x y : EvS) : Int := cmpS x.1.name y.1.name
theorem grow2 (w : World) (o o' : Obj) : (w.alloc o).alloc o' = Sort.grow (w.drewN 0) #[o, o'] := by
  rw [Sort.alloc_eq_grow, Sort.alloc_eq_grow, Sort.grow_grow]; rfl
theorem swoE : Sort.SWO (ltOf cfE) where
  irrefl x := by simp [ltOf, cfE, cmpS_eq, Dsr.cmpB_refl]
  trans x y z h1 h2 := by
    simp only [ltOf, cfE, cmpS_eq, decide_eq_true_eq] at *
    exact Dsr.cmpB_trans _ _ _ h1 h2
  ntrans x y z h1 h2 := by
    simp only [ltOf, cfE, cmpS_eq, decide_eq_false_iff_not] at *
    exact Dsr.cmpB_ntrans _ _ _ h1 h2
theorem or3_neg (a b c : Int) : or3 a b c < 0 ↔ a < 0 ∨ (a = 0 ∧ (b < 0 ∨ (b = 0 ∧ c < 0))) := by
  unfold or3
  by_cases ha : a = 0
  · by_cases hb : b = 0
    · simp [ha, hb]
    · simp [ha, hb]
  · simp [ha]
theorem cmpNat_neg (a b : Nat) : cmpNat a b < 0 ↔ a < b := by
  unfold cmpNat
  split
  · rename_i h; constructor <;> intros <;> first | exact h | decide
  · split
    · rename_i h h'; constructor
      · intro hh; exact absurd hh (by decide)
      · intro hh; omega
    · rename_i h h'; constructor
      · intro hh; exact absurd hh (by decide)
      · intro hh; omega
theorem cmpNat_zero (a b : Nat) : cmpNat a b = 0 ↔ a = b := by
  unfold cmpNat
  split
  · rename_i h; constructor
    · intro hh; exact absurd hh (by decide)
    · intro hh; omega
  · split
    · rename_i h h'; constructor
      · intro hh; exact absurd hh (by decide)
      · intro hh; omega
    · rename_i h h'; constructor
      · intro _; omega
      · intro _; rfl
/-- One rule ahead of another. -/
def ltR (a b : Dsr.Rl) : Prop := Dsr.cmpB a.left b.left < 0 ∨ (a.left = b.left ∧ (Dsr.cmpB a.right b.right < 0 ∨ (a.right = b.right ∧ a.kind < b.kind)))
theorem cmpB_zero (a b : List UInt8) : Dsr.cmpB a b = 0 ↔ a = b := ⟨Dsr.cmpB_eq, fun h => by subst h; exact Dsr.cmpB_refl _⟩
theorem cmpRl_neg (a b : Dsr.Rl) : cmpRl a b < 0 ↔ ltR a b := by
  unfold cmpRl ltR
  rw [or3_neg, cmpNat_neg, cmpS_eq, cmpS_eq, cmpB_zero, cmpB_zero]
theorem ltR_irr (a : Dsr.Rl) : ¬ ltR a a := by
  unfold ltR
  rw [Dsr.cmpB_refl, Dsr.cmpB_refl]
  omega
theorem ltR_tri (a b : Dsr.Rl) : ltR a b ∨ a = b ∨ ltR b a := by
  unfold ltR
  have e1 := Dsr.cmpB_swap a.left b.left
  have e2 := Dsr.cmpB_swap a.right b.right
  by_cases h1 : Dsr.cmpB a.left b.left < 0
  · exact .inl (.inl h1)
  · by_cases h2 : Dsr.cmpB b.left a.left < 0
    · exact .inr (.inr (.inl h2))
    · have h3 := Dsr.cmpB_eq (a := a.left) (b := b.left) (by omega)
      by_cases h4 : Dsr.cmpB a.right b.right < 0
      · exact .inl (.inr ⟨h3, .inl h4⟩)
      · by_cases h5 : Dsr.cmpB b.right a.right < 0
        · exact .inr (.inr (.inr ⟨h3.symm, .inl h5⟩))
        · have h6 := Dsr.cmpB_eq (a := a.right) (b := b.right) (by omega)
          rcases Nat.lt_trichotomy a.kind b.kind with h | h | h
          · exact .inl (.inr ⟨h3, .inr ⟨h6, h⟩⟩)
          · right; left
            obtain ⟨l, r, k⟩ := a
            obtain ⟨l', r', k'⟩ := b
            simp only at h3 h6 h
            subst h3 h6 h; rfl
          · exact .inr (.inr (.inr ⟨h3.symm, .inr ⟨h6.symm, h⟩⟩))
theorem ltR_trans (a b c : Dsr.Rl) (h : ltR a b) (h' : ltR b c) : ltR a c := by
  unfold ltR at *
  rcases h with h | ⟨h, h2⟩
  · rcases h' with h' | ⟨h', _⟩
    · exact .inl (Dsr.cmpB_trans _ _ _ h h')
    · left; rw [← h']; exact h
  · rcases h' with h' | ⟨h', h2'⟩
    · left; rw [h]; exact h'
    · right
      refine ⟨h.trans h', ?_⟩
      rcases h2 with h2 | ⟨h2, h3⟩
      · rcases h2' with h2' | ⟨h2', _⟩
        · exact .inl (Dsr.cmpB_trans _ _ _ h2 h2')
        · left; rw [← h2']; exact h2
      · rcases h2' with h2' | ⟨h2', h3'⟩
        · left; rw [h2]; exact h2'
        · exact .inr ⟨h2.trans h2', by omega⟩
theorem ltR_asym (a b : Dsr.Rl) (h : ltR a b) : ¬ ltR b a := fun h' => ltR_irr a (ltR_trans a b a h h')
theorem swoR : Sort.SWO (ltOf cmpRl) where
  irrefl x := by simp only [ltOf, decide_eq_false_iff_not, cmpRl_neg]; exact ltR_irr x
  trans x y z h1 h2 := by
    simp only [ltOf, cmpRl_neg, decide_eq_true_eq] at *
    exact ltR_trans _ _ _ h1 h2
  ntrans x y z h1 h2 := by
    simp only [ltOf, cmpRl_neg, decide_eq_false_iff_not] at *
    intro h3
    rcases ltR_tri x y with h | h | h
    · exact h1 h
    · subst h; exact h2 h3
    · rcases ltR_tri y z with h' | h' | h'
      · exact h2 h'
      · subst h'; exact h1 h3
      · exact ltR_asym _ _ h3 (ltR_trans _ _ _ h' h)
theorem sortEvents_any {B : Nat} {w : World} {v : Value} (ps : List EvS) (h : w.ownsRow B 144 5 v ps.length (ps.flatMap encE)) (hz : ps.length < 4611686018427387904) :
    Calls Tryz.prog 103 #[v, .func (.func 104) #[] #[]] w fun e w' => e = .returned (.tuple #[]) ∧ ∃ ps' : List EvS, ps'.Perm ps ∧ ps'.Pairwise (fun a b => ¬ cfE b a < 0) ∧ w'.ownsRow B 144 5 v ps'.length (ps'.flatMap encE) ∧ w.grownBy w' v.ownBlock := by
  haveI : Inhabited EvS := ⟨(⟨[], [], false, false, false⟩, none, 0, 0)⟩
  rcases h.2 with ⟨rfl, h0⟩ | ⟨g, cap, cur, rfl, hB, hb, h1, h2, h3, h4⟩
  · have e0 : ps = [] := List.eq_nil_of_length_eq_zero h0
    subst e0
    have hc := AnyF.slices_SortFunc_none Tryz.sortEv none 0 (.func (.func 104) #[] #[]) w
    refine Calls.mono hc ?_
    rintro e w' ⟨he, rfl⟩
    exact ⟨he, [], List.Perm.refl _, List.Pairwise.nil, World.ownsRow_nil _ _ _ _, World.grownBy.refl _ _⟩
  · have eg : ∀ args w, (callFunc 104 args).run Tryz.prog w = .ok (.enter 104 args) w := enters_of Tryz.func104 (by kernel_rfl) rfl
    have hg : g < w.heap.size := (Array.getElem?_eq_some_iff.1 hb).1
    have hc := AnyQ.slices_SortFunc Tryz.sortEv 5 Tryz.isAgg144 Tryz.sizeOf144 encE (fun _ => rfl) (fun x v hv => one_ev x.1 (slV x.2) rfl v hv) cfE swoE 104 #[] g 0 cap ps.toArray w eg (fun m os dk _ x y => (byName_any x.1 y.1 (slV x.2) (slV y.2) ⟨_, _, _, rfl⟩ ⟨_, _, _, rfl⟩ _).mono fun e w' he => ⟨he.1, 0, _, he.2.trans (grow2 _ _ _)⟩) (holdsK_of encE (fun _ => rfl) ps rfl hb h4) hg (by simpa using hz)
    have e1 : ps.toArray.size = ps.length := by simp
    rw [e1] at hc
    refine Calls.mono hc ?_
    rintro e w' ⟨he, d', m, os, hp, hs, rfl⟩
    have hsz : d'.size = ps.length := by rw [hp.1]; simp
    refine ⟨he, d'.toList, ?_, ?_, ?_, grown_sortK encE d'⟩
    · have := hp.2.2
      rw [← hsz, Array.extract_size] at this
      rw [hsz] at this
      have e2 : ps.toArray.extract 0 ps.length = ps.toArray := by rw [← e1, Array.extract_size]
      rw [e2] at this
      exact this
    · rw [List.pairwise_iff_getElem]
      intro i j hi hj hij
      have hi' : i < d'.size := by simpa using hi
      have hj' : j < d'.size := by simpa using hj
      have := hs i j (Nat.zero_le _) hij (by rw [← hsz]; exact hj')
      rw [getElem!_pos d' i hi', getElem!_pos d' j hj'] at this
      simpa [ltOf] using this
    · have e3 : d'.toList.length = ps.length := by simp [hsz]
      rw [e3]
      exact owns_sortK encE (fun _ => rfl) d' hsz hB hb h1 h2 h3
theorem sortRules_any {B : Nat} {w : World} {v : Value} (ps : List Dsr.Rl) (h : w.ownsRow B 150 3 v ps.length (ps.flatMap rlC)) (hz : ps.length < 4611686018427387904) :
    Calls Tryz.prog 107 #[v, .func (.func 108) #[] #[]] w fun e w' => e = .returned (.tuple #[]) ∧ ∃ ps' : List Dsr.Rl, ps'.Perm ps ∧ ps'.Pairwise (fun a b => ¬ cmpRl b a < 0) ∧ w'.ownsRow B 150 3 v ps'.length (ps'.flatMap rlC) ∧ w.grownBy w' v.ownBlock := by
  haveI : Inhabited Dsr.Rl := ⟨⟨[], [], 0⟩⟩
  rcases h.2 with ⟨rfl, h0⟩ | ⟨g, cap, cur, rfl, hB, hb, h1, h2, h3, h4⟩
  · have e0 : ps = [] := List.eq_nil_of_length_eq_zero h0
    subst e0
    have hc := AnyF.slices_SortFunc_none Tryz.sortRu none 0 (.func (.func 108) #[] #[]) w
    refine Calls.mono hc ?_
    rintro e w' ⟨he, rfl⟩
    exact ⟨he, [], List.Perm.refl _, List.Pairwise.nil, World.ownsRow_nil _ _ _ _, World.grownBy.refl _ _⟩
  · have eg : ∀ args w, (callFunc 108 args).run Tryz.prog w = .ok (.enter 108 args) w := enters_of Tryz.func108 (by kernel_rfl) rfl
    have hg : g < w.heap.size := (Array.getElem?_eq_some_iff.1 hb).1
    have hc := AnyQ.slices_SortFunc Tryz.sortRu 3 Tryz.isAgg150 Tryz.sizeOf150 rlC (fun _ => rfl) (fun x v hv => one_rl x v hv) cmpRl swoR 108 #[] g 0 cap ps.toArray w eg (fun m os dk _ x y => compareRules_any x y _) (holdsK_of rlC (fun _ => rfl) ps rfl hb h4) hg (by simpa using hz)
    have e1 : ps.toArray.size = ps.length := by simp
    rw [e1] at hc
    refine Calls.mono hc ?_
    rintro e w' ⟨he, d', m, os, hp, hs, rfl⟩
    have hsz : d'.size = ps.length := by rw [hp.1]; simp
    refine ⟨he, d'.toList, ?_, ?_, ?_, grown_sortK rlC d'⟩
    · have := hp.2.2
      rw [← hsz, Array.extract_size] at this
      rw [hsz] at this
      have e2 : ps.toArray.extract 0 ps.length = ps.toArray := by rw [← e1, Array.extract_size]
      rw [e2] at this
      exact this
    · rw [List.pairwise_iff_getElem]
      intro i j hi hj hij
      have hi' : i < d'.size := by simpa using hi
      have hj' : j < d'.size := by simpa using hj
      have := hs i j (Nat.zero_le _) hij (by rw [← hsz]; exact hj')
      rw [getElem!_pos d' i hi', getElem!_pos d' j hj'] at this
      simpa [ltOf] using this
    · have e3 : d'.toList.length = ps.length := by simp [hsz]
      rw [e3]
      exact owns_sortK rlC (fun _ => rfl) d' hsz hB hb h1 h2 h3
theorem sortStrings_any {B : Nat} {w : World} {v : Value} (ss : List (List UInt8)) (h : w.ownsRow B 9 1 v ss.length (ss.map strV)) (hz : ss.length < 4611686018427387904) :
    Calls Tryz.prog 106 #[v] w fun e w' => e = .returned (.tuple #[]) ∧ w'.ownsRow B 9 1 v ss.length ((ss.mergeSort fun x y => decide (x ≤ y)).map strV) ∧ w.grownBy w' v.ownBlock := by
  rcases h.2 with ⟨rfl, h0⟩ | ⟨g, cap, cur, rfl, hB, hb, h1, h2, h3, h4⟩
  · have e0 : ss = [] := List.eq_nil_of_length_eq_zero h0
    subst e0
    refine (Tryz.slices_Sort_string_none none 0 w).mono ?_
    rintro e w' ⟨he, rfl⟩
    exact ⟨he, by simpa using World.ownsRow_nil _ _ _ _, World.grownBy.refl _ _⟩
  · have hg : g < w.heap.size := (Array.getElem?_eq_some_iff.1 hb).1
    refine (Tryz.slices_Sort_string g 0 cap ss w (holds_of_block hb (by simpa using h4)) hg hz).mono ?_
    rintro e w' ⟨he, n, os, rfl⟩
    exact ⟨he, ownsRow_sorted (by simp) hB hb h1 h2 h3, grownBy_sorted _⟩
end Go.Proofs.YtjmcokcdaddpcaaGreatDoor
set_option linter.unusedVariables false
set_option linter.unusedSimpArgs false
namespace Go.Proofs.YtjmcokcdaddpcaaGreatDoor
open Go.RowKit
abbrev rlV (r : Dsr.Rl) : Value := .agg #[strV r.left, strV r.right, .int .u8 r.kind]
def eqRl (x y : Dsr.Rl) : Bool := x.left == y.left && x.right == y.right && x.kind == y.kind
theorem eqRl_iff (x y : Dsr.Rl) : eqRl x y = true ↔ x = y := by
  obtain ⟨a, b, c⟩ := x
  obtain ⟨a', b', c'⟩ := y
  simp [eqRl]
  exact and_assoc
theorem eq_run (x y : Dsr.Rl) (w : World) : (binOp .eql 150 (rlV x) (rlV y)).run Tryz.prog w = .ok (.bool (eqRl x y)) w := by
  have u9 := Tryz.underlying9
  have a9 := Tryz.isAgg9
  have z9 := Tryz.sizeOf9
  have u58 := Tryz.underlying133
  have a58 := Tryz.isAgg133
  have z58 := Tryz.sizeOf133
  have hS : Tryz.prog.underlying 150 = some (.struct (Tryz.prog.fieldsOf 150)) := by kernel_rfl
  have hp : Tryz.prog.stoodInHeld 150 = false := by kernel_rfl
  rw [run_eql_struct, show (10000 : Nat) = 9999 + 1 from rfl, run_equalIn_agg w 9999 150 _ _ hS hp]
  simp only [Program.fieldsOf, Tryz.underlying150]
  go_simp
  by_cases h1 : x.left = y.left <;> by_cases h2 : x.right = y.right <;> by_cases h3 : x.kind = y.kind <;> (have h4 : ((x.kind : Int) = (y.kind : Int)) = (x.kind = y.kind) := propext (by omega)) <;> simp [eqRl, h1, h2, h3, h4]
theorem neq_run (x y : Dsr.Rl) (w : World) : (binOp .neq 150 (rlV x) (rlV y)).run Tryz.prog w = .ok (.bool (!eqRl x y)) w := by
  have h := eq_run x y w
  have e : ∀ v, (binOp .eql 150 (rlV x) (rlV y)).run Tryz.prog w = .ok (.bool v) w → (binOp .neq 150 (rlV x) (rlV y)).run Tryz.prog w = .ok (.bool (!v)) w := by
    intro v hv
    simp only [binOp] at hv ⊢
    revert hv
    generalize (Op.equal 150 (rlV x) (rlV y)) = q
    simp only [Sem.run_bind]
    cases q.run Tryz.prog w with
    | ok a w1 => simp
    | halt a w1 => simp [Result.andThen]
  exact e _ h
theorem guard_rl : GuardAt Tryz.prog 150 rlV := GuardAt.agg _ (by kernel_rfl)
end Go.Proofs.YtjmcokcdaddpcaaGreatDoor
namespace Go.Proofs.YtjmcokcdaddpcaaGreatDoor
open Go.RowKit
/-- A slice of rules: its cells at a place. -/
theorem rl_cells {w : World} {B g cap n : Nat} {rs : List Dsr.Rl} (h : w.ownsRow B 150 3 (.slice (some ⟨g, 0, none⟩) n cap) n (rs.flatMap rlC)) {k : Nat} {r : Dsr.Rl} (hk : rs[k]? = some r) :
    w.cell? ⟨g, k * 3, none⟩ = some (strV r.left) ∧ w.cell? ⟨g, k * 3 + 1, none⟩ = some (strV r.right) ∧ w.cell? ⟨g, k * 3 + 2, none⟩ = some (.int .u8 r.kind) :=
  ⟨own_cell h ((Dsr.flatM 3 rlC (fun _ => rfl) rs k r 0 hk (by omega)).trans rfl), own_cell h ((Dsr.flatM 3 rlC (fun _ => rfl) rs k r 1 hk (by omega)).trans rfl), own_cell h ((Dsr.flatM 3 rlC (fun _ => rfl) rs k r 2 hk (by omega)).trans rfl)⟩
theorem flat_set3 : ∀ (rs : List Dsr.Rl) (k : Nat) (x : Dsr.Rl), k < rs.length → (((rs.flatMap rlC).set (k * 3) (strV x.left)).set (k * 3 + 1) (strV x.right)).set (k * 3 + 2) (.int .u8 x.kind) = (rs.set k x).flatMap rlC
  | [], k, x, h => by simp at h
  | a :: rs, 0, x, h => by simp [rlC]
  | a :: rs, k + 1, x, h => by
    have ih := flat_set3 rs k x (by simpa using h)
    have e0 : (k + 1) * 3 = k * 3 + 1 + 1 + 1 := by omega
    rw [List.flatMap_cons, List.set_cons_succ, List.flatMap_cons, ← ih, e0]
    simp [rlC]
theorem own_set3 {w : World} {B g cap n : Nat} {rs : List Dsr.Rl} (h : w.ownsRow B 150 3 (.slice (some ⟨g, 0, none⟩) n cap) n (rs.flatMap rlC)) (hl : rs.length = n) {k : Nat} (hk : k < n) (x : Dsr.Rl) :
    (((w.setCell ⟨g, k * 3, none⟩ (strV x.left)).setCell ⟨g, k * 3 + 1, none⟩ (strV x.right)).setCell ⟨g, k * 3 + 2, none⟩ (.int .u8 x.kind)).ownsRow B 150 3 (.slice (some ⟨g, 0, none⟩) n cap) n ((rs.set k x).flatMap rlC) := by
  rw [← flat_set3 rs k x (by omega)]
  exact (((h.stored (k * 3) (strV x.left)).1.stored (k * 3 + 1) (strV x.right)).1.stored (k * 3 + 2) (.int .u8 x.kind)).1
/-- Of a slice's row the beginning. -/
theorem own_part {w : World} {B g cap n m : Nat} {e : TypeId} {xs : List Value} (h : w.ownsRow B e m (.slice (some ⟨g, 0, none⟩) n cap) n xs) {k : Nat} (hk : k ≤ n) : w.ownsRow B e m (.slice (some ⟨g, 0, none⟩) k cap) k (xs.take (k * m)) := by
  have hkm : k * m ≤ n * m := Nat.mul_le_mul_right _ hk
  refine ⟨by rw [List.length_take, h.1]; omega, .inr ?_⟩
  rcases h.2 with ⟨h1, _⟩ | ⟨g', cap', cur, h1, hB, hb, h2, h3, h4, h5⟩
  · cases h1
  · injection h1 with ha _ hc
    injection ha with ha
    injection ha with hg _ _
    subst hg
    subst hc
    exact ⟨g, cap, cur, rfl, hB, hb, by omega, h3, h4, by rw [← h5, List.take_take, Nat.min_eq_left hkm]⟩
theorem setCells_row (g : Nat) (T : TypeId) : ∀ (vs : List Value) (o : Nat) (w : World) (cur : Array Value), w.heap[g]? = some (.cells cur T (0, 0)) → ∃ cur', (w.setCells g o vs).heap[g]? = some (.cells cur' T (0, 0)) ∧ cur'.size = cur.size ∧ ∀ j, j < o → cur'[j]? = cur[j]?
  | [], o, w, cur, h => ⟨cur, h, rfl, fun _ _ => rfl⟩
  | v :: vs, o, w, cur, h => by
    obtain ⟨c1, h1, h2, h3⟩ := setCells_row g T vs (o + 1) (w.setCell ⟨g, o, none⟩ v) _ (blk_set h o v)
    refine ⟨c1, h1, by simpa using h2, fun j hj => ?_⟩
    rw [h3 j (by omega), Array.getElem?_setIfInBounds, if_neg (by omega)]
theorem setCells_far (g : Nat) : ∀ (vs : List Value) (o : Nat) (w : World) (k : Nat), k ≠ g → (w.setCells g o vs).heap[k]? = w.heap[k]?
  | [], o, w, k, _ => rfl
  | v :: vs, o, w, k, h => by
    show ((w.setCell ⟨g, o, none⟩ v).setCells g (o + 1) vs).heap[k]? = _
    rw [setCells_far g vs (o + 1) _ k h]
    exact heap_setCell_other _ _ _ _ h
theorem grown_setCells (w : World) (g o : Nat) (vs : List Value) : w.grownBy (w.setCells g o vs) (some g) := by
  induction vs generalizing w o with
  | nil => exact World.grownBy.refl _ _
  | cons v vs ih =>
    have h1 := ih (w.setCell ⟨g, o, none⟩ v) (o + 1)
    exact ⟨h1.os, h1.tape, h1.output, Nat.le_trans (by simp) h1.size, fun k hk hne => (h1.block k (by simpa using hk) hne).trans (heap_setCell_other _ _ _ _ (fun e => hne (by rw [e])))⟩
/-- Stores behind a slice's end. -/
theorem own_behind {w : World} {B g cap n m o : Nat} {e : TypeId} {xs vs : List Value} (h : w.ownsRow B e m (.slice (some ⟨g, 0, none⟩) n cap) n xs) (ho : n * m ≤ o) : (w.setCells g o vs).ownsRow B e m (.slice (some ⟨g, 0, none⟩) n cap) n xs := by
  refine ⟨h.1, .inr ?_⟩
  rcases h.2 with ⟨h1, _⟩ | ⟨g', cap', cur, h1, hB, hb, h2, h3, h4, h5⟩
  · cases h1
  · injection h1 with ha _ hc
    injection ha with ha
    injection ha with hg _ _
    subst hg
    subst hc
    obtain ⟨c1, e1, e2, e3⟩ := setCells_row g e vs o w cur hb
    refine ⟨g, cap, c1, rfl, hB, e1, h2, h3, by rw [e2]; exact h4, ?_⟩
    rw [← h5]
    apply List.ext_getElem?
    intro j
    by_cases hj : j < n * m
    · rw [List.getElem?_take, if_pos hj, List.getElem?_take, if_pos hj, Array.getElem?_toList, Array.getElem?_toList]
      exact e3 j (by omega)
    · rw [List.getElem?_take, if_neg hj, List.getElem?_take, if_neg hj]
theorem clear_run (w : World) (ty : TypeId) (b o n c : Nat) (hn : 0 < n) (hc : ∀ j, j < n * 3 → (w.cell? ⟨b, o + j, none⟩).isSome = true) (hf : ∀ j, j < n * 3 → w.frozen? ⟨b, o + j, none⟩ = false) :
    ∃ vs : List Value, (Builtin.clear_ #[89] ty #[.slice (some ⟨b, o, none⟩) n c]).run Tryz.prog w = .ok (.tuple #[]) (w.setCells b o vs) := by
  have hv : ∀ w, (zeroValue 150).run Tryz.prog w = .ok (.agg #[.string ⟨#[]⟩, .string ⟨#[]⟩, .int .u8 0]) w := Tryz.zeroValue150
  have hl : (Builtin.zeroCells (Value.agg #[.string ⟨#[]⟩, .string ⟨#[]⟩, .int .u8 0]).cells n).toList.length = n * 3 := by simp [Builtin.zeroCells, Value.cells]
  have h1 : ∀ v ∈ (Builtin.zeroCells (Value.agg #[.string ⟨#[]⟩, .string ⟨#[]⟩, .int .u8 0]).cells n).toList, v.oneCell' = true := by
    intro v hv'
    simp only [Builtin.zeroCells, Array.toList_map, List.mem_map] at hv'
    obtain ⟨i, _, rfl⟩ := hv'
    have e : (Value.agg #[.string ⟨#[]⟩, .string ⟨#[]⟩, .int .u8 0]).cells = #[.string ⟨#[]⟩, .string ⟨#[]⟩, .int .u8 0] := rfl
    rw [e]
    have h3 : i % 3 = 0 ∨ i % 3 = 1 ∨ i % 3 = 2 := by omega
    show (#[Value.string ⟨#[]⟩, .string ⟨#[]⟩, .int .u8 0] : Array Value)[i % 3]!.oneCell' = true
    rcases h3 with h | h | h <;> rw [h] <;> rfl
  have hst := run_storeCells_cells (P := Tryz.prog) b o (Builtin.zeroCells (Value.agg #[.string ⟨#[]⟩, .string ⟨#[]⟩, .int .u8 0]).cells n).toList 0 w (by rw [hl]; simpa using hc) (by rw [hl]; simpa using hf) h1
  simp only [Nat.add_zero] at hst
  refine ⟨(Builtin.zeroCells (Value.agg #[.string ⟨#[]⟩, .string ⟨#[]⟩, .int .u8 0]).cells n).toList, ?_⟩
  obtain ⟨m, rfl⟩ : ∃ m, n = m + 1 := ⟨n - 1, by omega⟩
  simp [Builtin.clear_, run_underlying Tryz.underlying89, hv, hst]
end Go.Proofs.YtjmcokcdaddpcaaGreatDoor
