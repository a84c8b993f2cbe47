import Derived.Test.YtjmcokcdaddpcaaGreatDoorUh
set_option linter.unusedVariables false
set_option linter.unusedSimpArgs false
namespace Go.Proofs.YtjmcokcdaddpcaaGreatDoor
open Go.RowKit
/-- The sizes of what was read. -/
structure LSm (l : LK) : Prop where
  evs : l.events.length ≤ 400
  rls : l.rules.length ≤ 1000
  nm : ∀ e ∈ l.events, e.name.length ≤ 400
  rn : ∀ e ∈ l.events, e.roles.length ≤ 400
  rl : ∀ e ∈ l.events, ∀ r ∈ e.roles, r.length ≤ 400
/-- The event of a name, its roles in order. -/
def EvOf (l : LK) (n : List UInt8) (e : Dsr.Ev) : Prop := ∃ e0 rs, l.events.find? (fun e => e.name == n) = some e0 ∧ rs.Pairwise (· < ·) ∧ (∀ r, r ∈ rs ↔ r ∈ e0.roles ∧ r ≠ []) ∧ e = { e0 with roles := rs }
def EvsOf (l : LK) : List (List UInt8) → List Dsr.Ev → Prop
  | [], [] => True
  | n :: ns, e :: es => EvOf l n e ∧ EvsOf l ns es
  | _, _ => False
theorem EvsOf.snoc {l : LK} : ∀ {ns : List (List UInt8)} {es : List Dsr.Ev} {n : List UInt8} {e : Dsr.Ev}, EvsOf l ns es → EvOf l n e → EvsOf l (ns ++ [n]) (es ++ [e])
  | [], [], n, e, _, h => ⟨h, trivial⟩
  | a :: ns, b :: es, n, e, h, h' => ⟨h.1, EvsOf.snoc h.2 h'⟩
  | [], b :: es, n, e, h, h' => h.elim
  | a :: ns, [], n, e, h, h' => h.elim
theorem findI_mem (x : List UInt8) : ∀ (es : List Dsr.Ev) (k : Nat), x ∈ es.map (·.name) → ∃ idx e0, findI es x k = ((k + idx : Nat) : Int) ∧ es[idx]? = some e0 ∧ es.find? (fun e => e.name == x) = some e0
  | [], k, h => by simp at h
  | e :: es, k, h => by
    unfold findI
    by_cases he : e.name = x
    · exact ⟨0, e, by rw [if_pos he]; rfl, rfl, by simp [he]⟩
    · have h' : x ∈ es.map (·.name) := by
        rw [List.map_cons, List.mem_cons] at h
        rcases h with h | h
        · exact absurd h.symm he
        · exact h
      obtain ⟨i, e0, h1, h2, h3⟩ := findI_mem x es (k + 1) h'
      exact ⟨i + 1, e0, by rw [if_neg he, h1]; congr 1; omega, by simpa using h2, by rw [List.find?_cons, beq_eq_false_iff_ne.2 he]; exact h3⟩
def ruR (a b : List UInt8) (k : Nat) : List UInt8 := a ++ [32] ++ Dsr.signs.getD k [] ++ [32] ++ b ++ [59, 10]
def partK (rs : List RR) (a b : List UInt8) (n : Nat) : List UInt8 := (List.range n).flatMap fun (k : Nat) => if hasR rs ((k : Int) + 1) a b = true then ruR a b k else []
def partB (rs : List RR) (a : List UInt8) (m : List (List UInt8)) : List UInt8 := m.flatMap fun b => partK rs a b 5
def partA (rs : List RR) (ns m : List (List UInt8)) : List UInt8 := m.flatMap fun a => partB rs a ns
def TextOf (l : LK) (t : List UInt8) : Prop := ∃ (ns : List (List UInt8)) (es : List Dsr.Ev), ns.Pairwise (· < ·) ∧ (∀ r, r ∈ ns ↔ r ∈ l.events.map (·.name) ∧ r ≠ []) ∧ EvsOf l ns es ∧ t = es.flatMap Dsr.evLine ++ partA l.rules ns ns
theorem partK_succ (rs : List RR) (a b : List UInt8) (n : Nat) : partK rs a b (n + 1) = partK rs a b n ++ (if hasR rs ((n : Int) + 1) a b = true then ruR a b n else []) := by
  unfold partK; rw [List.range_succ, List.flatMap_append]; simp
theorem partB_at {rs : List RR} {a b : List UInt8} {ns : List (List UInt8)} {m : Nat} (h : ns[m]? = some b) : partB rs a (ns.take (m + 1)) = partB rs a (ns.take m) ++ partK rs a b 5 := by
  unfold partB; rw [take_at h, List.flatMap_append]; simp
theorem partA_at {rs : List RR} {a : List UInt8} {ns : List (List UInt8)} {m : Nat} (h : ns[m]? = some a) : partA rs ns (ns.take (m + 1)) = partA rs ns (ns.take m) ++ partB rs a ns := by
  unfold partA; rw [take_at h, List.flatMap_append]; simp
theorem sig_len (k : Nat) : (Dsr.signs.getD k []).length ≤ 4 := by
  match k with
  | 0 | 1 | 2 | 3 | 4 => decide
  | k + 5 => simp [Dsr.signs]
theorem sig_cell {w : World} {n : Nat} (h : w.heap[n]? = some (.cells #[.string ⟨#[45, 62, 42]⟩, .string ⟨#[45, 62, 60, 62]⟩, .string ⟨#[42, 45, 62]⟩, .string ⟨#[45, 62, 43]⟩, .string ⟨#[45, 62, 37]⟩] 9 (0, 0))) {k : Nat} (hk : k < 5) : w.cell? ⟨n, k, none⟩ = some (strV (Dsr.signs.getD k [])) := by
  match k, hk with
  | 0, _ | 1, _ | 2, _ | 3, _ | 4, _ => simp [World.cell?, h, Dsr.signs]
theorem rHas_at {B b : Nat} {w : World} {l : LK} {s : LS} (sg sw : Int) (t u : List UInt8) (q : Bool) (hw : sw = sg) (hq : hasR l.rules sg t u = q) (h : LkAt B b w l s) (hl : l.rules.length ≤ 1000) :
    Calls Tryz.prog 119 #[ptrG b, .int .i64 sw, strV t, strV u] w fun e w' => e = .returned (.bool q) ∧ Below w.heap.size w w' := by
  subst hq hw; exact rHas_any _ t u h hl
theorem wrap_one (k : Nat) (hk : k ≤ 1000) : IntKind.i64.wrap ((k : Int) + 1) = (k : Int) + 1 := by
  unfold IntKind.wrap; simp [IntKind.bits, IntKind.signed]; omega
theorem joinC_len : ∀ (l : List (List UInt8)), (∀ r ∈ l, r.length ≤ 400) → (Dsr.joinC l).length ≤ l.length * 402
  | [], _ => by simp [Dsr.joinC]
  | [a], h => by have := h a (by simp); simp [Dsr.joinC, List.intercalate, List.intersperse]; omega
  | a :: b :: l, h => by
    have ih := joinC_len (b :: l) (fun r hr => h r (List.mem_cons_of_mem _ hr))
    have ha := h a (by simp)
    unfold Dsr.joinC at ih ⊢
    simp only [List.intercalate, List.intersperse_cons_cons, List.flatten_cons, List.length_append, List.length_cons] at ih ⊢
    simp only [List.length_nil]
    omega
theorem evLine_len {e : Dsr.Ev} (h1 : e.name.length ≤ 400) (h2 : e.roles.length ≤ 400) (h3 : ∀ r ∈ e.roles, r.length ≤ 400) : (Dsr.evLine e).length ≤ 161300 := by
  have := joinC_len e.roles h3
  unfold Dsr.evLine
  simp only [List.length_append, List.length_cons, List.length_nil]
  split <;> split <;> split <;> simp <;> omega
theorem rwritten_at {B : Nat} {w : World} {v : Value} (x : Dsr.Ev) (h : w.ownsRow B 9 1 v x.roles.length (x.roles.map strV)) (hE : x.roles.length ≤ 400 ∧ x.name.length ≤ 400 ∧ ∀ r ∈ x.roles, r.length ≤ 400) :
    Calls Tryz.prog 117 #[evA x v] w fun e w' => ∃ ln, e = .returned (strV ln) ∧ (ln.length : Int) ≤ 161300 ∧ Hid ((∃ ro : List (List UInt8), ro.Pairwise (· < ·) ∧ (∀ r, r ∈ ro ↔ r ∈ x.roles ∧ r ≠ []) ∧ ln = Dsr.evLine { x with roles := ro }) ∧ Below w.heap.size w w') := by
  refine (rwritten_any x h (by omega) (by omega) (fun r hr => by have := hE.2.2 r hr; omega)).mono ?_
  rintro e w' ⟨out, rfl, ho, hol, hb⟩
  refine ⟨_, rfl, ?_, ⟨out, ho.1, ho.2, rfl⟩, hb⟩
  have : (Dsr.evLine { x with roles := out }).length ≤ 161300 := evLine_len hE.2.1 (Nat.le_trans (pair_len ho.1 (fun r hr => ((ho.2 r).1 hr).1)) hE.1) (fun r hr => hE.2.2 r ((ho.2 r).1 hr).1)
  omega
theorem after_find {B b : Nat} {wr w2 : World} {l : LK} {s : LS} {ge ce ix : Nat} {e0 : Dsr.Ev} {v0 : Value} (h : LkAt B b wr l s) (hv : s.ve = .slice (some ⟨ge, 0, none⟩) l.events.length ce) (hx : l.events[ix]? = some e0) (hvx : s.rv[ix]? = some v0) (hb : Below wr.drew.heap.size wr.drew w2) :
    Hid (LkAt B b w2 l s) ∧ w2.cell? ⟨b, 4, none⟩ = some (.slice (some ⟨ge, 0, none⟩) l.events.length ce) ∧ w2.cell? ⟨ge, ix * 5, none⟩ = some (strV e0.name) ∧ w2.cell? ⟨ge, ix * 5 + 1, none⟩ = some v0 ∧ w2.cell? ⟨ge, ix * 5 + 2, none⟩ = some (.bool e0.done) ∧ w2.cell? ⟨ge, ix * 5 + 3, none⟩ = some (.bool e0.inn) ∧ w2.cell? ⟨ge, ix * 5 + 4, none⟩ = some (.bool e0.due) ∧ Hid (w2.ownsRow B 9 1 v0 e0.roles.length (e0.roles.map strV)) ∧ Hid (Below wr.heap.size wr w2) := by
  have hb1 : Below wr.heap.size wr w2 := ⟨hb.os, hb.tape, hb.output, hb.size, hb.block⟩
  have h2 := h.aside hb1
  obtain ⟨g', v', h1, h3, h4, e0, e1, e2, e3, e4, -, -⟩ := h2.evAt hv hx
  injection h1 with h1
  injection h1 with h1
  subst h1
  have : v0 = v' := by rw [hvx] at h3; exact Option.some.inj h3
  subst this
  have hc := h2.cells.2.2.2.2.1
  rw [hv] at hc
  exact ⟨h2, hc, e0, e1, e2, e3, e4, h2.rows.own ⟨v0, 9, 1, _, _⟩ (List.mem_of_getElem? (roleRows_at' hx hvx)), hb1⟩
set_option maxRecDepth 100000 in
set_option maxHeartbeats 3200000 in
theorem rText_any {B b : Nat} {w : World} {l : LK} {s : LS} (h : LkAt B b w l s) (hs : LSm l) :
    Calls Tryz.prog 72 #[ptrG b] w fun e w' => ∃ t, e = .returned (strV t) ∧ TextOf l t ∧ t.length ≤ 1000000000 ∧ Below w.heap.size w w' := by
  obtain ⟨ae, ce, ar, cr, au, cu, hve, hvr, hvu⟩ := h.shapes
  have HV : Hid (s.ve = .slice ae l.events.length ce) := hve
  have H : Hid (LkAt B b w l s) := h
  have HS : Hid (LSm l) := hs
  have hl1 := hs.evs
  have hz : (l.events.length : Int) ≤ 400 := by omega
  clear h hve hvr hvu hs
  go_enter Tryz.func72, Tryz.ntmps72
  go_wp2_with fail
  go_loopg [4, 5] l.events.length (fun g v iv wr => ∃ n : Nat, iv = .int .i64 n ∧ n + g = l.events.length ∧ wr.ownsRow w.heap.size 9 1 v n (((l.events.take n).map (·.name)).map strV) ∧ Below w.heap.size w wr)
  case atStart => exact ⟨0, rfl, by omega, World.ownsRow_nil _ _ _ _, Below.refl _ _⟩
  case round =>
    obtain ⟨n, rfl, hn, hown, hb⟩ := hrel
    have hl1 := H.out.aside hb
    obtain ⟨c0, c1, c2, c3, c4, c5, c6, c7, c8, fz⟩ := hl1.cells
    rw [HV.out] at c4
    have hlt := hl1.lt
    obtain ⟨av, cv, rfl⟩ := owned_shape hown
    have HO : Hid (wr.ownsRow w.heap.size 9 1 (.slice av n cv) n (((l.events.take n).map (·.name)).map strV) ∧ Below w.heap.size w wr) := ⟨hown, hb⟩
    have hwr : w.heap.size ≤ wr.heap.size := hb.size
    clear hown
    by_cases hi : n < l.events.length
    · obtain ⟨x, hx⟩ : ∃ x, l.events[n]? = some x := ⟨_, List.getElem?_eq_getElem hi⟩
      obtain ⟨ge, v, rfl, hvx, hgl, e0, e1, e2, e3, e4, hc1, hc2⟩ := hl1.evAt HV.out hx
      obtain ⟨m, rfl⟩ : ∃ m, gk = m + 1 := ⟨gk - 1, by omega⟩
      clear hb hl1 hvx c0 c1 c2 c3 c5 c6 c7 c8 e1 e2 e3 e4
      have hnI : n ≤ 400 := by omega
      have HX : Hid (l.events[n]? = some x) := hx
      obtain ⟨i0, hi0, hz0, hz1, hz2⟩ := info_parts Tryz.infoStr
      clear hx
      go_wp2_with (at_builtin; refine wpList_append_lies _ rfl (.tmp 21) (.tmp 30) 22 rfl w.heap.size 9 i0 _ 1 16 Tryz.underlying22 hi0 hz0 hz1 hz2 rfl (by decide) (.slice av n cv) n _ (by simp [Act.eval, Act.put]) (HO.out.1.alloc _) ⟨wr.heap.size, 0, none⟩ 1 1 [strV x.name] (by simp [Act.eval, Act.put]) rfl (by exact news_l (by simp)) (by intro u hu; simp at hu; subst hu; rfl) (by decide) (by unfold maxLen; omega) (by omega) (by simp; omega) _ rfl ?_; intro g' cap w5 hown hgrow hat hlt5)
      have b5 : Below w.heap.size w w5 := (HO.out.2.alloc hwr _).grown hgrow (by simp; omega) (fun k hk => (HO.out.1.lt k hk).1)
      go_roundg m
      case measure => omega
      case rel => exact ⟨n + 1, by go_num, by omega, by rw [take_at HX.out]; simpa using hown, b5⟩
    · have hnl : n = l.events.length := by omega
      subst hnl
      have HO1 : Hid (wr.ownsRow w.heap.size 9 1 (.slice av l.events.length cv) (l.events.map (·.name)).length ((l.events.map (·.name)).map strV)) := by
        have := HO.out.1
        rw [List.take_length] at this
        rw [List.length_map]
        exact this
      clear hl1 c0 c1 c2 c3 c5 c6 c7 c8
      go_wp2_with fail
      refine (rOrdered_any HO1.out (by simp; omega)).mono ?_
      rintro e w1 ⟨v', ns, rfl, hns, hown, hb1⟩
      have hnl : ns.length ≤ 400 := Nat.le_trans (pair_len hns.1 (fun r hr => ((hns.2 r).1 hr).1)) (by simpa using HS.out.evs)
      have hnz : (ns.length : Int) ≤ 400 := by omega
      obtain ⟨an, cn, rfl⟩ := owned_shape hown
      have HB1 : Hid (Below w.heap.size w w1) := HO.out.2.trans (hb1.mono hwr)
      have HN : Hid ((ns.Pairwise (· < ·) ∧ ∀ r, r ∈ ns ↔ r ∈ l.events.map (·.name) ∧ r ≠ []) ∧ w1.ownsRow wr.heap.size 9 1 (.slice an ns.length cn) ns.length (ns.map strV)) := ⟨hns, hown⟩
      clear hns hown hb1 HO1 HO hb c4 fz hlt
      go_wp2_with fail
      obtain ⟨wo, hwo⟩ : ∃ wo, wo = wr := ⟨_, rfl⟩
      subst hwo
      go_loopg [3, 6] ns.length (fun g sv iv wr => ∃ (q : List UInt8) (n : Nat), sv = strV q ∧ iv = .int .i64 n ∧ n + g = ns.length ∧ q.length ≤ 161300 * n ∧ (∃ es, EvsOf l (ns.take n) es ∧ q = es.flatMap Dsr.evLine) ∧ Below w1.heap.size w1 wr)
      case atStart => exact ⟨[], 0, rfl, rfl, by omega, by simp, ⟨[], trivial, rfl⟩, Below.refl _ _⟩
      case round =>
        obtain ⟨q, n, rfl, rfl, hn, hql, hes, hb⟩ := hrel
        have hl1 := H.out.aside (HB1.out.trans (hb.mono HB1.out.size))
        obtain ⟨c0, c1, c2, c3, c4, c5, c6, c7, c8, fz⟩ := hl1.cells
        rw [HV.out] at c4
        have hlt := hl1.lt
        have hqI : (q.length : Int) ≤ 64600000 := by omega
        by_cases hi : n < ns.length
        · obtain ⟨x, hx⟩ : ∃ x, ns[n]? = some x := ⟨_, List.getElem?_eq_getElem hi⟩
          have ho := HN.out.2
          obtain ⟨g, rfl, hc1, hc2⟩ := own_some ho (by omega)
          have e0 : wr.cell? ⟨g, n, none⟩ = some (strV x) := by
            have := str_at ho hx
            rw [hb.cell (p := ⟨g, n, none⟩) (World.block_lt_of_cell? _ _ this)]
            exact this
          obtain ⟨m, rfl⟩ : ∃ m, gk = m + 1 := ⟨gk - 1, by omega⟩
          have HL : Hid (LkAt B b wr l s) := hl1
          have HLd : Hid (LkAt B b wr.drew l s) := hl1.aside (Below.refl _ _).drew
          obtain ⟨ix, e0, hf, hix, hfd⟩ := findI_mem x l.events 0 ((HN.out.1.2 x).1 (List.mem_of_getElem? hx)).1
          rw [Nat.zero_add] at hf
          obtain ⟨ge, v0, rfl, hvx, hgl, f0, f1, f2, f3, f4, hd1, hd2⟩ := hl1.evAt HV.out hix
          have hixl : ix < l.events.length := (List.getElem?_eq_some_iff.1 hix).1
          have hixI : (ix : Int) < (l.events.length : Int) := by omega
          have HX : Hid (l.events[ix]? = some e0 ∧ s.rv[ix]? = some v0 ∧ findI l.events x 0 = (ix : Int) ∧ l.events.find? (fun e => e.name == x) = some e0 ∧ ns[n]? = some x) := ⟨hix, hvx, hf, hfd, hx⟩
          have HES : Hid (∃ es, EvsOf l (ns.take n) es ∧ q = es.flatMap Dsr.evLine) := hes
          have HBR : Hid (Below w1.heap.size w1 wr) := hb
          have hm0 := List.mem_of_getElem? hix
          have HE0 : Hid (e0.roles.length ≤ 400 ∧ e0.name.length ≤ 400 ∧ ∀ r ∈ e0.roles, r.length ≤ 400) := ⟨HS.out.rn _ hm0, HS.out.nm _ hm0, HS.out.rl _ hm0⟩
          clear ho hl1 hix hvx hf hfd hx hes hb hm0 c0 c1 c2 c3 c5 c6 c7 c8
          go_wp2_with fail
          go_region_with (first
            | (go_at_call 116; refine (rFind_at x ix HX.out.2.2.1 HLd.out (by omega)).mono ?_; rintro e w2 ⟨rfl, b2⟩; obtain ⟨HL2, d4, g0, g1, g2, g3, g4, HW2, HB2⟩ := after_find HL.out HV.out HX.out.1 HX.out.2.1 b2)
            | (go_at_call 117; refine (rwritten_at e0 HW2.out HE0.out).mono ?_; rintro e w3 ⟨lt, rfl, hlt3, HW3⟩))
          all_goals
            go_wp2_with fail
            go_roundg m
            case measure => omega
            case rel =>
              obtain ⟨es, hes1, hes2⟩ := HES.out
              obtain ⟨⟨ro, hr1, hr2, hr3⟩, b3⟩ := HW3.out
              have hs2 := HB2.out.size
              have hs1 := HBR.out.size
              exact ⟨q ++ lt, n + 1, strApp q lt, by go_num, by omega, by simp; omega, ⟨es ++ [{ e0 with roles := ro }], by rw [take_at HX.out.2.2.2.2]; exact hes1.snoc ⟨e0, ro, HX.out.2.2.2.1, hr1, hr2, rfl⟩, by rw [hes2, hr3]; simp⟩, HBR.out.trans ((HB2.out.trans (b3.mono hs2)).mono hs1)⟩
        · have hnl2 : n = ns.length := by omega
          subst hnl2
          obtain ⟨es, hes1, hes2⟩ := hes
          rw [List.take_length] at hes1
          have HES : Hid (EvsOf l ns es ∧ q = es.flatMap Dsr.evLine) := ⟨hes1, hes2⟩
          have HBR : Hid (Below w.heap.size w wr) := HB1.out.trans (hb.mono HB1.out.size)
          have HNW : Hid (wr.ownsRow wo.heap.size 9 1 (.slice an ns.length cn) ns.length (ns.map strV)) := ownsRow_of_block HN.out.2 (fun k hk _ => hb.block k hk)
          have HL : Hid (LkAt B b wr l s) := hl1
          clear hes1 hes2 hb hl1 c0 c1 c2 c3 c5 c6 c7 c8
          go_wp2_with fail
          refine (rSigns_any _).mono ?_
          rintro e w3 ⟨rfl, hw3⟩
          obtain ⟨sb, hsb⟩ : ∃ sb, sb = wr.heap.size := ⟨_, rfl⟩
          have hw3' : w3.heap[sb]? = some (.cells #[.string ⟨#[45, 62, 42]⟩, .string ⟨#[45, 62, 60, 62]⟩, .string ⟨#[42, 45, 62]⟩, .string ⟨#[45, 62, 43]⟩, .string ⟨#[45, 62, 37]⟩] 9 (0, 0)) := by rw [hw3, hsb]; exact heap_alloc_new _ _
          have hb3 : Below wr.heap.size wr w3 := by rw [hw3]; exact below_alloc1 _
          have HZ : Hid (LkAt B b w3 l s ∧ w3.ownsRow wo.heap.size 9 1 (.slice an ns.length cn) ns.length (ns.map strV) ∧ w3.heap[sb]? = some (.cells #[.string ⟨#[45, 62, 42]⟩, .string ⟨#[45, 62, 60, 62]⟩, .string ⟨#[42, 45, 62]⟩, .string ⟨#[45, 62, 43]⟩, .string ⟨#[45, 62, 37]⟩] 9 (0, 0)) ∧ Below w.heap.size w w3) := ⟨HL.out.aside hb3, ownsRow_of_block HNW.out (fun k hk _ => hb3.block k hk), hw3', HBR.out.trans (hb3.mono HBR.out.size)⟩
          have hq0 : q.length ≤ 64600000 := by omega
          rw [← hsb]
          clear hw3 hw3' hb3 hsb HNW HL HBR c4 fz hlt hql hqI
          go_wp2_with fail
          clear hn
          go_loopg [3, 8] ns.length (fun g sv iv wr => ∃ (q1 : List UInt8) (n : Nat), sv = strV q1 ∧ iv = .int .i64 n ∧ n + g = ns.length ∧ q1 = q ++ partA l.rules ns (ns.take n) ∧ q1.length ≤ 64600000 + n * 1624000 ∧ Below w3.heap.size w3 wr)
          case atStart => exact ⟨q, 0, rfl, rfl, by omega, by simp [partA], by omega, Below.refl _ _⟩
          case round =>
            obtain ⟨q1, na, rfl, rfl, hna, hq1, hq1l, hba⟩ := hrel
            obtain ⟨wa, hwa⟩ : ∃ wa, wa = wr := ⟨_, rfl⟩
            subst hwa
            by_cases hia : na < ns.length
            · obtain ⟨xa, hxa⟩ : ∃ x, ns[na]? = some x := ⟨_, List.getElem?_eq_getElem hia⟩
              obtain ⟨gn, rfl, hc1, hc2⟩ := own_some HZ.out.2.1 (by omega)
              obtain ⟨ma, rfl⟩ : ∃ m, gk = m + 1 := ⟨gk - 1, by omega⟩
              have HQ1 : Hid (q1 = q ++ partA l.rules ns (ns.take na) ∧ ns[na]? = some xa ∧ Below w3.heap.size w3 wa) := ⟨hq1, hxa, hba⟩
              clear hq1 hxa hba
              go_wp2_with fail
              go_loopg [3, 9] ns.length (fun g sv iv wr => ∃ (q2 : List UInt8) (n : Nat), sv = strV q2 ∧ iv = .int .i64 n ∧ n + g = ns.length ∧ q2 = q1 ++ partB l.rules xa (ns.take n) ∧ q2.length ≤ q1.length + n * 4060 ∧ Below w3.heap.size w3 wr)
              case atStart => exact ⟨q1, 0, rfl, rfl, by omega, by simp [partB], by omega, HQ1.out.2.2⟩
              case round =>
                obtain ⟨q2, nb, rfl, rfl, hnb, hq2, hq2l, hbb⟩ := hrel
                obtain ⟨wb, hwb⟩ : ∃ wb, wb = wr := ⟨_, rfl⟩
                subst hwb
                by_cases hib : nb < ns.length
                · obtain ⟨xb, hxb⟩ : ∃ x, ns[nb]? = some x := ⟨_, List.getElem?_eq_getElem hib⟩
                  obtain ⟨mb, rfl⟩ : ∃ m, gk = m + 1 := ⟨gk - 1, by omega⟩
                  have HQ2 : Hid (q2 = q1 ++ partB l.rules xa (ns.take nb) ∧ ns[nb]? = some xb ∧ Below w3.heap.size w3 wb) := ⟨hq2, hxb, hbb⟩
                  clear hq2 hxb hbb
                  go_wp2_with fail
                  go_loopg [3, 10] 5 (fun g sv iv wr => ∃ (q3 : List UInt8) (n : Nat), sv = strV q3 ∧ iv = .int .i64 n ∧ n + g = 5 ∧ q3 = q2 ++ partK l.rules xa xb n ∧ q3.length ≤ q2.length + n * 812 ∧ Below w3.heap.size w3 wr)
                  case atStart => exact ⟨q2, 0, rfl, rfl, by omega, by simp [partK], by omega, HQ2.out.2.2⟩
                  case round =>
                    obtain ⟨q3, k, rfl, rfl, hk, hq3, hq3l, hbk⟩ := hrel
                    by_cases hik : k < 5
                    · obtain ⟨mk, rfl⟩ : ∃ m, gk = m + 1 := ⟨gk - 1, by omega⟩
                      have hl1 := HZ.out.1.aside hbk
                      have hrow := ownsRow_of_block HZ.out.2.1 (fun k hk _ => hbk.block k hk)
                      have ea := str_at hrow HQ1.out.2.1
                      have eb := str_at hrow HQ2.out.2.1
                      have hgl : gn < wr.heap.size := World.block_lt_of_cell? _ _ ea
                      have hsl : sb < w3.heap.size := by
                        rcases Nat.lt_or_ge sb w3.heap.size with h | h
                        · exact h
                        · have := HZ.out.2.2.1; rw [Array.getElem?_eq_none h] at this; cases this
                      have ek := sig_cell ((hbk.block sb hsl).trans HZ.out.2.2.1) hik
                      have hsk := sig_len k
                      have hikI : (k : Int) < 5 := by omega
                      obtain ⟨sk, hsk2⟩ : ∃ sk, Dsr.signs.getD k [] = sk := ⟨_, rfl⟩
                      rw [hsk2] at ek hsk
                      have hskI : (sk.length : Int) ≤ 4 := by omega
                      have hxal : xa.length ≤ 400 := by
                        obtain ⟨e, he, h⟩ := List.mem_map.1 ((HN.out.1.2 xa).1 (List.mem_of_getElem? HQ1.out.2.1)).1
                        rw [← h]; exact HS.out.nm e he
                      have hxbl : xb.length ≤ 400 := by
                        obtain ⟨e, he, h⟩ := List.mem_map.1 ((HN.out.1.2 xb).1 (List.mem_of_getElem? HQ2.out.2.1)).1
                        rw [← h]; exact HS.out.nm e he
                      have hxaI : (xa.length : Int) ≤ 400 := by omega
                      have hxbI : (xb.length : Int) ≤ 400 := by omega
                      have hq3I : (q3.length : Int) ≤ 1000000000 := by omega
                      have hslr : sb < wr.heap.size := World.block_lt_of_cell? _ _ ek
                      have HQ3 : Hid (q3 = q2 ++ partK l.rules xa xb k ∧ Dsr.signs.getD k [] = sk ∧ Below w3.heap.size w3 wr ∧ LkAt B b wr l s) := ⟨hq3, hsk2, hbk, hl1⟩
                      clear hq3 hsk2 hbk hl1 hrow
                      obtain ⟨hh, hhe⟩ : ∃ hh, hasR l.rules ((k : Int) + 1) xa xb = hh := ⟨_, rfl⟩
                      have HHE : Hid (hasR l.rules ((k : Int) + 1) xa xb = hh) := hhe
                      have HLd : Hid (LkAt B b wr.drew l s) := HQ3.out.2.2.2.aside (Below.refl _ _).drew
                      have hkI : (k : Int) ≤ 4 := by omega
                      have HWR : Hid (IntKind.i64.wrap ((k : Int) + 1) = (k : Int) + 1) := wrap_one k (by omega)
                      clear hhe
                      go_wp2_with fail
                      go_cut [11] from 74 to 86 (fun hv wd => hv = .bool hh ∧ Below wr.heap.size wr wd)
                      case first =>
                        go_region_with (go_at_call 119; refine (rHas_at ((k : Int) + 1) (IntKind.i64.wrap ((k : Int) + 1)) xa xb hh HWR.out HHE.out HLd.out HS.out.rls).mono ?_; rintro e w4 ⟨rfl, b4⟩)
                        all_goals
                          go_wp2_with fail
                          go_meet
                          case rel => exact ⟨rfl, ⟨b4.os, b4.tape, b4.output, b4.size, b4.block⟩⟩
                      case rest =>
                        obtain ⟨rfl, b4⟩ := hcut
                        have ea4 : wc.cell? ⟨gn, na, none⟩ = some (strV xa) := by rw [b4.cell (p := ⟨gn, na, none⟩) hgl]; exact ea
                        have eb4 : wc.cell? ⟨gn, nb, none⟩ = some (strV xb) := by rw [b4.cell (p := ⟨gn, nb, none⟩) hgl]; exact eb
                        have ek4 : wc.cell? ⟨sb, k, none⟩ = some (strV sk) := by rw [b4.cell (p := ⟨sb, k, none⟩) hslr]; exact ek
                        have HB4 : Hid (Below w3.heap.size w3 wc) := HQ3.out.2.2.1.trans (b4.mono HQ3.out.2.2.1.size)
                        clear b4 ea eb ek
                        rcases hh with _ | _
                        · go_wp2_with fail
                          go_roundg mk
                          case measure => omega
                          case rel => exact ⟨q3, k + 1, rfl, by go_num, by omega, by rw [partK_succ, HHE.out, if_neg (by decide), List.append_nil]; exact HQ3.out.1, by omega, HB4.out⟩
                        · go_wp2_with fail
                          go_quiet (fail)
                          go_wp2_with fail
                          go_roundg mk
                          case measure => omega
                          case rel => exact ⟨q3 ++ ruR xa xb k, k + 1, by rw [ruR, HQ3.out.2.1]; simp [ByteArray.mk_append_mk], by go_num, by omega, by rw [partK_succ, HHE.out, if_pos rfl, HQ3.out.1, List.append_assoc], by rw [ruR, HQ3.out.2.1]; simp; omega, ⟨HB4.out.os, HB4.out.tape, HB4.out.output, HB4.out.size, HB4.out.block⟩⟩
                    · have hk5 : k = 5 := by omega
                      subst hk5
                      have HQ3 : Hid (q3 = q2 ++ partK l.rules xa xb 5 ∧ Below w3.heap.size w3 wr) := ⟨hq3, hbk⟩
                      clear hq3 hbk
                      go_wp2_with fail
                      go_roundg mb
                      case measure => omega
                      case rel => exact ⟨q3, nb + 1, rfl, by go_num, by omega, by rw [HQ3.out.1, HQ2.out.1, partB_at HQ2.out.2.1, List.append_assoc], by omega, HQ3.out.2⟩
                · have hnb5 : nb = ns.length := by omega
                  subst hnb5
                  have HQ2 : Hid (q2 = q1 ++ partB l.rules xa ns ∧ Below w3.heap.size w3 wb) := ⟨by rw [hq2, List.take_length], hbb⟩
                  clear hq2 hbb
                  go_wp2_with fail
                  go_roundg ma
                  case measure => omega
                  case rel => exact ⟨q2, na + 1, rfl, by go_num, by omega, by rw [HQ2.out.1, HQ1.out.1, partA_at HQ1.out.2.1, List.append_assoc], by omega, HQ2.out.2⟩
            · have hna5 : na = ns.length := by omega
              subst hna5
              have HQ1 : Hid (q1 = q ++ partA l.rules ns ns ∧ Below w3.heap.size w3 wa) := ⟨by rw [hq1, List.take_length], hba⟩
              clear hq1 hba
              go_wp2_with fail
              go_ret
              exact ⟨q1, rfl, ⟨ns, es, HN.out.1.1, HN.out.1.2, HES.out.1, by rw [HQ1.out.1, HES.out.2]⟩, by omega, HZ.out.2.2.2.trans (HQ1.out.2.mono HZ.out.2.2.2.size)⟩
end Go.Proofs.YtjmcokcdaddpcaaGreatDoor
