import Derived.Test.YtjmcokcdaddpcaaGreatDoorUh
import Derived.Test.YtjmcokcdaddpcaaGreatDoorGrQ
set_option linter.unusedVariables false
set_option linter.unusedSimpArgs false
namespace Go.Proofs.YtjmcokcdaddpcaaGreatDoor
open Go.RowKit
/-- Does an event hinder another one, as it stands? -/
def blockQ (rs : List RR) (ev : List UInt8) (e : Dsr.Ev) : Bool := e.inn && ((hasR rs 1 e.name ev && !e.done) || (hasR rs 2 e.name ev && e.due))
def saysQ (l : LK) (evs : List Dsr.Ev) (role ev : List UInt8) : Nat := match evs.find? (fun e => e.name == ev) with
  | none => 1
  | some e => if e.roles.contains role = false then 2 else if e.inn = false then 3 else if evs.any (blockQ l.rules ev) then 4 else 0
theorem findI_out (x : List UInt8) : ∀ (es : List Dsr.Ev) (k : Nat), x ∉ es.map (·.name) → findI es x k = -1
  | [], _, _ => rfl
  | e :: es, k, h => by
    simp only [List.map_cons, List.mem_cons, not_or] at h
    unfold findI
    rw [if_neg (fun e => h.1 e.symm)]
    exact findI_out x es (k + 1) h.2
theorem find_idx2 {l : LK} {evs : List Dsr.Ev} (hk : MkOf l evs) {x : List UInt8} {i : Nat} {e : Dsr.Ev} (hf : l.events.find? (fun e => e.name == x) = some e) : ∀ {es ev2 : List Dsr.Ev} (k : Nat), es.map (·.name) = ev2.map (·.name) → findI es x k = ((k + i : Nat) : Int) → ∃ e', ev2.find? (fun e => e.name == x) = some e' ∧ ev2[i]? = some e' := by
  intro es
  induction es generalizing i with
  | nil => intro ev2 k h1 h2; simp [findI] at h2; omega
  | cons a es ih =>
    intro ev2 k h1 h2
    rcases ev2 with _ | ⟨b, ev2⟩
    · simp at h1
    · simp only [List.map_cons, List.cons.injEq] at h1
      unfold findI at h2
      by_cases hx : a.name = x
      · rw [if_pos hx] at h2
        have : i = 0 := by omega
        subst this
        refine ⟨b, ?_, rfl⟩
        rw [List.find?_cons_of_pos]
        simp [← h1.1, hx]
      · rw [if_neg hx] at h2
        have hi : 0 < i := by
          rcases Nat.eq_zero_or_pos i with h0 | h0
          · exfalso
            subst h0
            have : ∀ (es : List Dsr.Ev) (k : Nat), findI es x k = -1 ∨ (k : Int) ≤ findI es x k := by
              intro es
              induction es with
              | nil => intro k; left; rfl
              | cons c es ih2 =>
                intro k
                unfold findI
                split
                · right; omega
                · rcases ih2 (k + 1) with h | h
                  · left; exact h
                  · right; omega
            have := this es (k + 1)
            omega
          · exact h0
        obtain ⟨i', rfl⟩ : ∃ i', i = i' + 1 := ⟨i - 1, by omega⟩
        obtain ⟨e', h3, h4⟩ := ih (i := i') (k + 1) h1.2 (by rw [h2]; omega)
        refine ⟨e', ?_, by simpa using h4⟩
        rw [List.find?_cons_of_neg]
        · exact h3
        · simp [← h1.1, hx]
theorem any_at {evs : List Dsr.Ev} {f : Dsr.Ev → Bool} {k : Nat} {x : Dsr.Ev} (h : evs[k]? = some x) : (evs.drop k).any f = (f x || (evs.drop (k + 1)).any f) := by
  rw [drop_at h, List.any_cons]
theorem contains_snocR {l : List (List UInt8)} {k : Nat} {x : List UInt8} (h : l[k]? = some x) (r : List UInt8) : (l.take (k + 1)).contains r = ((l.take k).contains r || (x == r)) := by
  rw [List.take_add_one, h, Bool.eq_iff_iff, Bool.or_eq_true, List.contains_iff_mem, List.contains_iff_mem, List.mem_append, beq_iff_eq]
  refine or_congr_right ?_
  simp
  exact eq_comm
set_option maxRecDepth 100000 in
set_option maxHeartbeats 3200000 in
theorem rSays_any {B b Bm : Nat} {w : World} {l : LK} {s : LS} {evs : List Dsr.Ev} {mv : Value} (role ev : List UInt8) (h : LkAt B b w l s) (hm : w.ownsRow Bm 48 3 mv evs.length (evs.flatMap mkC)) (hk : MkOf l evs) (hs : LSm l) :
    Calls Tryz.prog 170 #[ptrG b, mv, .agg #[strV role, strV ev]] w fun x w' => x = .returned (.int .u8 (saysQ l evs role ev : Nat)) ∧ Below w.heap.size w w' := by
  obtain ⟨ae, ce, ar, cr, au, cu, hve, hvr, hvu⟩ := h.shapes
  obtain ⟨am, cm, rfl⟩ := owned_shape hm
  have HV : Hid (s.ve = .slice ae l.events.length ce) := hve
  have H : Hid (LkAt B b w l s ∧ w.ownsRow Bm 48 3 (.slice am evs.length cm) evs.length (evs.flatMap mkC) ∧ MkOf l evs ∧ LSm l) := ⟨h, hm, hk, hs⟩
  have hz : (evs.length : Int) ≤ 1000 := by have := hs.evs; rw [hk.len]; omega
  clear h hve hvr hvu hm hk hs
  go_enter Tryz.func170, Tryz.ntmps170
  go_wp2_with fail
  refine (rFind_any ev (H.out.1.aside ((Below.refl _ _).alloc (Nat.le_refl _) _)) (by have := H.out.2.2.2.evs; omega)).mono ?_
  rintro y w1 ⟨rfl, b1⟩
  have p1 := (b1.block w.heap.size (by simp)).trans (heap_alloc_new _ _)
  have hwl : w.heap.size < w1.heap.size := (Array.getElem?_eq_some_iff.1 p1).1
  obtain ⟨r0, r1, rf⟩ := cells2R p1
  have H1 : Hid (Below w.heap.size w w1 ∧ w1.heap[w.heap.size]? = some (.cells #[strV role, strV ev] 238 (0, 0))) := ⟨below_alloc b1, p1⟩
  clear b1 p1
  by_cases hmem : ev ∈ l.events.map (·.name)
  · obtain ⟨ix, e0, hf, hix, hfe⟩ := findI_mem ev l.events 0 hmem
    obtain ⟨x, hfx, hxi⟩ := find_idx2 H.out.2.2.1 hfe 0 H.out.2.2.1.nm.symm hf
    obtain ⟨e1, he1, hn1, hr1⟩ := H.out.2.2.1.at hxi
    obtain rfl : e1 = e0 := Option.some.inj (he1.symm.trans hix)
    have hnx : x.name = ev := by have := List.find?_some hfx; simpa using this
    have hxl : ix < l.events.length := (List.getElem?_eq_some_iff.1 hix).1
    have hxe : ix < evs.length := (List.getElem?_eq_some_iff.1 hxi).1
    have S1 := H.out.1.aside H1.out.1
    obtain ⟨ge, v0, rfl, hvx, hgl, g0, g1, g2, g3, g4, hd1, hd2⟩ := S1.evAt HV.out hix
    have hro : w1.ownsRow B 9 1 v0 e1.roles.length (e1.roles.map strV) := S1.rows.own ⟨v0, 9, 1, _, _⟩ (List.mem_of_getElem? (roleRows_at' hix hvx))
    obtain ⟨av, cv, rfl⟩ := owned_shape hro
    have hrl : (e1.roles.length : Int) ≤ 400 := by have := H.out.2.2.2.rn e1 (List.mem_of_getElem? hix); omega
    have c4 := S1.cells.2.2.2.2.1
    rw [HV.out] at c4
    have hlt := S1.lt
    have hxz : (ix : Int) ≤ 1000 := by omega
    rw [hf, Nat.zero_add]
    have HX : Hid (l.events[ix]? = some e1 ∧ evs[ix]? = some x ∧ evs.find? (fun e => e.name == ev) = some x ∧ e1.name = x.name ∧ e1.roles = x.roles ∧ LkAt B b w1 l s ∧ w1.ownsRow B 9 1 (.slice av e1.roles.length cv) e1.roles.length (e1.roles.map strV)) := ⟨hix, hxi, hfx, hn1, hr1, S1, hro⟩
    clear hmem hf hix hfe hfx hxi he1 hn1 hr1 S1 hvx hro g0 g2 g3 g4
    go_wp2_with fail
    go_loopg [8, 9] e1.roles.length (fun g mv i wr => ∃ k : Nat, i = .int .i64 k ∧ k + g = e1.roles.length ∧ mv = .bool ((e1.roles.take k).contains role) ∧ Below w1.heap.size w1 wr)
    case atStart => exact ⟨0, rfl, by omega, rfl, Below.refl _ _⟩
    case round =>
      obtain ⟨k, rfl, hk, rfl, hb⟩ := hrel
      have c4' := (hb.cell (p := ⟨b, 4, none⟩) hlt).trans c4
      have g1' := (hb.cell (p := ⟨ge, ix * 5 + 1, none⟩) hgl).trans g1
      have r0' := (hb.cell (p := ⟨w.heap.size, 0, none⟩) hwl).trans r0
      have r1' := (hb.cell (p := ⟨w.heap.size, 1, none⟩) hwl).trans r1
      by_cases hi : k < e1.roles.length
      · obtain ⟨rl, hrl2⟩ : ∃ rl, e1.roles[k]? = some rl := ⟨_, List.getElem?_eq_getElem hi⟩
        obtain ⟨gv, rfl, hcv1, hcv2⟩ := own_some HX.out.2.2.2.2.2.2 (by omega)
        have y0 := str_at HX.out.2.2.2.2.2.2 hrl2
        have y0' := (hb.cell (p := ⟨gv, k, none⟩) (World.block_lt_of_cell? _ _ y0)).trans y0
        obtain ⟨j, rfl⟩ : ∃ j, gk = j + 1 := ⟨gk - 1, by omega⟩
        have HK : Hid (Below w1.heap.size w1 wr ∧ e1.roles[k]? = some rl) := ⟨hb, hrl2⟩
        clear hb hrl2 y0
        rcases hct : (e1.roles.take k).contains role with _ | _
        · go_wp2_with fail
          go_quiet (fail)
          go_wp2_with fail
          go_roundg j
          case measure => omega
          case rel => exact ⟨k + 1, by go_num, by omega, by rw [contains_snocR HK.out.2, hct]; rfl, ⟨HK.out.1.os, HK.out.1.tape, HK.out.1.output, HK.out.1.size, HK.out.1.block⟩⟩
        · go_wp2_with fail
          go_quiet (fail)
          go_wp2_with fail
          go_roundg j
          case measure => omega
          case rel => exact ⟨k + 1, by go_num, by omega, by rw [contains_snocR HK.out.2, hct]; rfl, ⟨HK.out.1.os, HK.out.1.tape, HK.out.1.output, HK.out.1.size, HK.out.1.block⟩⟩
      · have hkl : k = e1.roles.length := by omega
        subst hkl
        rw [List.take_length]
        have HB : Hid (Below w.heap.size w wr) := H1.out.1.trans (hb.mono H1.out.1.size)
        have HBw : Hid (Below w1.heap.size w1 wr) := hb
        clear hb c4 g1 r0 r1 hwl hlt hgl
        have hwl : w.heap.size < wr.heap.size := by have := HB.out.size; exact World.block_lt_of_cell? _ _ r0'
        have HC : Hid (saysQ l evs role ev = if e1.roles.contains role = false then 2 else if x.inn = false then 3 else if evs.any (blockQ l.rules ev) then 4 else 0) := by
          show _ = _
          unfold saysQ
          rw [HX.out.2.2.1, HX.out.2.2.2.2.1]
        rcases hct : e1.roles.contains role with _ | _
        · have HD : Hid (saysQ l evs role ev = 2) := HC.out.trans (if_pos hct)
          clear hct
          go_wp2_with fail
          go_ret
          exact ⟨by rw [HD.out]; rfl, HB.out⟩
        · have HD : Hid (saysQ l evs role ev = if x.inn = false then 3 else if evs.any (blockQ l.rules ev) then 4 else 0) := HC.out.trans (if_neg (by rw [hct]; decide))
          clear hct HC
          have hm0 := H.out.2.1
          obtain ⟨gm, rfl, hc1, hc2⟩ := own_some hm0 (by omega)
          have hm1 := ownsRow_of_block hm0 (fun k hk _ => HB.out.block k hk)
          obtain ⟨q0, q1, q2, hgm⟩ := mk_at hm1 HX.out.2.1
          clear hm0 hm1
          rcases hin : x.inn with _ | _
          · have HE : Hid (saysQ l evs role ev = 3) := HD.out.trans (if_pos hin)
            rw [hin] at q1
            clear hin
            go_wp2_with fail
            go_ret
            exact ⟨by rw [HE.out]; rfl, HB.out⟩
          · have HE : Hid (saysQ l evs role ev = if evs.any (blockQ l.rules ev) then 4 else 0) := HD.out.trans (if_neg (by rw [hin]; decide))
            rw [hin] at q1
            clear hin HD
            go_wp2_with fail
            obtain ⟨w2, hw2⟩ : ∃ w2, w2 = wr := ⟨_, rfl⟩
            subst hw2
            clear q0 q1 q2 c4' g1' r0' r1'
            go_loopg [10] evs.length (fun g i wr => ∃ k : Nat, i = .int .i64 k ∧ k + g = evs.length ∧ (evs.drop k).any (blockQ l.rules ev) = evs.any (blockQ l.rules ev) ∧ Below w2.heap.size w2 wr)
            case atStart => exact ⟨0, rfl, by omega, rfl, Below.refl _ _⟩
            case round =>
              obtain ⟨k, rfl, hk, han, hb⟩ := hrel
              have hbw : Below w.heap.size w wr := HB.out.trans (hb.mono HB.out.size)
              by_cases hi : k < evs.length
              · obtain ⟨x2, hx2⟩ : ∃ x2, evs[k]? = some x2 := ⟨_, List.getElem?_eq_getElem hi⟩
                obtain ⟨e2, he2, hn2, hr2⟩ := H.out.2.2.1.at hx2
                have hke : k < l.events.length := (List.getElem?_eq_some_iff.1 he2).1
                have S2 := H.out.1.aside hbw
                obtain ⟨ge2, v2, hge2, hvx2, hgl2, g0, g1, g2, g3, g4, hf1, hf2⟩ := S2.evAt HV.out he2
                injection hge2 with hge2
                injection hge2 with hge2
                subst hge2
                rw [hn2] at g0
                have c4 := S2.cells.2.2.2.2.1
                rw [HV.out] at c4
                have hlt := S2.lt
                have p2 := (hb.block w.heap.size hwl).trans ((HBw.out.block w.heap.size (Array.getElem?_eq_some_iff.1 H1.out.2).1).trans H1.out.2)
                have hwl2 : w.heap.size < wr.heap.size := (Array.getElem?_eq_some_iff.1 p2).1
                obtain ⟨r0, r1, rf2⟩ := cells2R p2
                obtain ⟨j, rfl⟩ : ∃ j, gk = j + 1 := ⟨gk - 1, by omega⟩
                rw [any_at hx2] at han
                have HK : Hid ((blockQ l.rules ev x2 || (evs.drop (k + 1)).any (blockQ l.rules ev)) = evs.any (blockQ l.rules ev) ∧ Below w2.heap.size w2 wr ∧ evs[k]? = some x2 ∧ LkAt B b wr l s ∧ wr.heap[w.heap.size]? = some (.cells #[strV role, strV ev] 238 (0, 0)) ∧ Below w.heap.size w wr) := ⟨han, hb, hx2, S2, p2, hbw⟩
                clear han hb hx2 S2 p2 hbw he2 hn2 hr2 hvx2 g1 g2 g3 g4
                go_wp2_with fail
                refine (rHas_any 1 x2.name ev HK.out.2.2.2.1 H.out.2.2.2.rls).mono ?_
                rintro y w3 ⟨rfl, b3⟩
                have r1' := (b3.cell (p := ⟨w.heap.size, 1, none⟩) hwl2).trans r1
                have hwl3 : w.heap.size < w3.heap.size := Nat.lt_of_lt_of_le hwl2 b3.size
                have HB3 : Hid (Below wr.heap.size wr w3) := b3
                clear b3 r0 r1 g0 c4
                go_wp2_with fail
                refine (rHas_any 2 x2.name ev (HK.out.2.2.2.1.aside HB3.out) H.out.2.2.2.rls).mono ?_
                rintro y w4 ⟨rfl, b4⟩
                have HB4 : Hid (Below wr.heap.size wr w4) := HB3.out.trans (b4.mono HB3.out.size)
                have hm4 := ownsRow_of_block H.out.2.1 (fun k hk _ => (HK.out.2.2.2.2.2.trans (HB4.out.mono HK.out.2.2.2.2.2.size)).block k hk)
                obtain ⟨q0, q1, q2, hgm4⟩ := mk_at hm4 HK.out.2.2.1
                clear b4 hm4 r1' hwl3
                obtain ⟨h1, hh1⟩ : ∃ q, q = hasR l.rules 1 x2.name ev := ⟨_, rfl⟩
                obtain ⟨h2, hh2⟩ : ∃ q, q = hasR l.rules 2 x2.name ev := ⟨_, rfl⟩
                rw [← hh1, ← hh2]
                have HBQ : Hid (blockQ l.rules ev x2 = (x2.inn && ((h1 && !x2.done) || (h2 && x2.due)))) := by
                  show _ = _
                  unfold blockQ
                  rw [hh1, hh2]
                clear hh1 hh2
                obtain ⟨dn, hdn⟩ : ∃ q, q = x2.done := ⟨_, rfl⟩
                obtain ⟨du, hdu⟩ : ∃ q, q = x2.due := ⟨_, rfl⟩
                obtain ⟨nn, hnn⟩ : ∃ q, q = x2.inn := ⟨_, rfl⟩
                rw [← hdn] at q0
                rw [← hnn] at q1
                rw [← hdu] at q2
                have HBR : Hid (blockQ l.rules ev x2 = (nn && ((h1 && !dn) || (h2 && du)))) := by rw [hdn, hdu, hnn]; exact HBQ.out
                clear hdn hdu hnn HBQ
                rcases hbq : (nn && ((h1 && !dn) || (h2 && du))) with _ | _
                · have HZ : Hid ((evs.drop (k + 1)).any (blockQ l.rules ev) = evs.any (blockQ l.rules ev)) := by
                    have := HK.out.1
                    rw [HBR.out, hbq, Bool.false_or] at this
                    exact this
                  cases nn <;> cases h1 <;> cases dn <;> cases h2 <;> cases du <;> first
                    | (exfalso; exact absurd hbq (by decide))
                    | skip
                  all_goals
                    clear hbq
                    go_wp2_with fail
                    go_roundg j
                    case measure => omega
                    case rel => exact ⟨k + 1, by go_num, by omega, HZ.out, HK.out.2.1.trans (HB4.out.mono HK.out.2.1.size)⟩
                · have HZ : Hid (saysQ l evs role ev = 4) := by
                    have := HK.out.1
                    rw [HBR.out, hbq, Bool.true_or] at this
                    exact HE.out.trans (if_pos this.symm)
                  cases nn <;> cases h1 <;> cases dn <;> cases h2 <;> cases du <;> first
                    | (exfalso; exact absurd hbq (by decide))
                    | skip
                  all_goals
                    clear hbq
                    go_wp2_with fail
                    go_ret
                    exact ⟨by rw [HZ.out]; rfl, HK.out.2.2.2.2.2.trans (HB4.out.mono HK.out.2.2.2.2.2.size)⟩
              · have hkl : k = evs.length := by omega
                subst hkl
                rw [List.drop_length] at han
                have HF : Hid (saysQ l evs role ev = 0 ∧ Below w.heap.size w wr) := ⟨HE.out.trans (if_neg (by rw [← han]; simp)), hbw⟩
                clear han hb hbw
                go_wp2_with fail
                go_ret
                exact ⟨by rw [HF.out.1]; rfl, HF.out.2⟩
  · have HQ : Hid (saysQ l evs role ev = 1) := by
      show _ = _
      unfold saysQ
      have : evs.find? (fun e => e.name == ev) = none := by
        rw [List.find?_eq_none]
        intro e he
        simp
        intro hh
        exact hmem (by rw [← H.out.2.2.1.nm]; exact List.mem_map.2 ⟨e, he, hh⟩)
      rw [this]
    rw [findI_out _ _ _ hmem]
    clear hmem
    go_wp2_with fail
    go_ret
    exact ⟨by rw [HQ.out]; rfl, H1.out.1⟩
end Go.Proofs.YtjmcokcdaddpcaaGreatDoor
