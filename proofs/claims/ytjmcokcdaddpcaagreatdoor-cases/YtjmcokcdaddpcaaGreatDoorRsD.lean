import Derived.Test.YtjmcokcdaddpcaaGreatDoorRsC
import Derived.Deep.CutRange
set_option linter.unusedVariables false
set_option linter.unusedSimpArgs false
namespace Go.Proofs.YtjmcokcdaddpcaaGreatDoor
open Go.RowKit
theorem own_mono {w : World} {B B' m n : Nat} {e : TypeId} {v : Value} {xs : List Value} (h : w.ownsRow B e m v n xs) (hb : B' ≤ B) : w.ownsRow B' e m v n xs :=
  ⟨h.1, h.2.imp id (fun ⟨g, c, cur, h1, h2, h3⟩ => ⟨g, c, cur, h1, Nat.le_trans hb h2, h3⟩)⟩
/-- The cells of a request. -/
def rqC (q : List UInt8 × List UInt8) : List Value := [strV q.1, strV q.2]
def nextQ (l : LK) (evs : List Dsr.Ev) (q : List UInt8 × List UInt8) : List Dsr.Ev := if saysQ l evs q.1 q.2 = 0 then evs.map (doneQ l.rules q.2) else evs
/-- How the events stand behind the requests. -/
def marksQ (l : LK) (reqs : List (List UInt8 × List UInt8)) : List Dsr.Ev := reqs.foldl (nextQ l) l.events
theorem MkOf.next {l : LK} {evs : List Dsr.Ev} (h : MkOf l evs) (q : List UInt8 × List UInt8) : MkOf l (nextQ l evs q) := by
  unfold nextQ
  split
  · exact h.done _ _
  · exact h
theorem MkOf.foldl {l : LK} : ∀ (reqs : List (List UInt8 × List UInt8)) {evs : List Dsr.Ev}, MkOf l evs → MkOf l (reqs.foldl (nextQ l) evs)
  | [], _, h => h
  | q :: reqs, _, h => MkOf.foldl reqs (h.next q)
theorem MkOf.marks (l : LK) (reqs : List (List UInt8 × List UInt8)) : MkOf l (marksQ l reqs) := MkOf.foldl reqs (MkOf.refl l)
theorem marksQ_snoc (l : LK) (reqs : List (List UInt8 × List UInt8)) (q : List UInt8 × List UInt8) : marksQ l (reqs ++ [q]) = nextQ l (marksQ l reqs) q := by
  unfold marksQ
  rw [List.foldl_append]
  rfl
theorem rq_at {w : World} {B g c n : Nat} {qs : List (List UInt8 × List UInt8)} (h : w.ownsRow B 238 2 (.slice (some ⟨g, 0, none⟩) n c) n (qs.flatMap rqC)) {i : Nat} {x : List UInt8 × List UInt8} (hx : qs[i]? = some x) :
    w.cell? ⟨g, i * 2, none⟩ = some (strV x.1) ∧ w.cell? ⟨g, i * 2 + 1, none⟩ = some (strV x.2) ∧ g < w.heap.size := by
  have e := fun j hj => flatM2 2 rqC (fun _ => rfl) qs i x j hx hj
  have e0 := own_at h ((e 0 (by omega)).trans rfl)
  exact ⟨e0, own_at h ((e 1 (by omega)).trans rfl), World.block_lt_of_cell? _ _ e0⟩
set_option maxRecDepth 100000 in
set_option maxHeartbeats 3200000 in
theorem rcMarks_any {B b cb Bq : Nat} {w : World} {l : LK} {s : LS} {reqs : List (List UInt8 × List UInt8)} {vq : Value} (hc0 : w.cell? ⟨cb, 0, none⟩ = some (ptrG b)) (hc1 : w.cell? ⟨cb, 1, none⟩ = some vq) (hcb : cb < w.heap.size) (h : LkAt B b w l s) (hr : w.ownsRow Bq 238 2 vq reqs.length (reqs.flatMap rqC)) (hs : LSm l) (hl : reqs.length ≤ 1000) :
    Calls Tryz.prog 169 #[ptr cb] w fun x w' => ∃ v, x = .returned v ∧ w'.ownsRow w.heap.size 48 3 v (marksQ l reqs).length ((marksQ l reqs).flatMap mkC) ∧ Below w.heap.size w w' := by
  obtain ⟨ae, ce, ar, cr, au, cu, hve, hvr, hvu⟩ := h.shapes
  obtain ⟨aq, cq, rfl⟩ := owned_shape hr
  have HV : Hid (s.ve = .slice ae l.events.length ce) := hve
  have H : Hid (LkAt B b w l s ∧ w.ownsRow Bq 238 2 (.slice aq reqs.length cq) reqs.length (reqs.flatMap rqC) ∧ LSm l ∧ reqs.length ≤ 1000) := ⟨h, hr, hs, hl⟩
  have hz : (l.events.length : Int) ≤ 400 := by have := hs.evs; omega
  have hrz : (reqs.length : Int) ≤ 1000 := by omega
  obtain ⟨i0, hi0, hz0, hz1, hz2⟩ := info_parts info_mark
  clear h hve hvr hvu hr hs hl
  go_enter Tryz.func169, Tryz.ntmps169
  go_wp2_with fail
  go_loopg [3, 4] l.events.length (fun g v i wr => ∃ m : Nat, i = .int .i64 m ∧ m + g = l.events.length ∧ wr.ownsRow w.heap.size 48 3 v m ((l.events.take m).flatMap mkC) ∧ Below w.heap.size w wr)
  case atStart => exact ⟨0, rfl, by omega, World.ownsRow_nil _ _ _ _, Below.refl _ _⟩
  case round =>
    obtain ⟨m, rfl, hn, hown, hb⟩ := hrel
    obtain ⟨ao, co, rfl⟩ := owned_shape hown
    have k0 := (hb.cell (p := ⟨cb, 0, none⟩) hcb).trans hc0
    have k1 := (hb.cell (p := ⟨cb, 1, none⟩) hcb).trans hc1
    have hcb1 : cb < wr.heap.size := Nat.lt_of_lt_of_le hcb hb.size
    have S1 := H.out.1.aside hb
    have c4 := S1.cells.2.2.2.2.1
    rw [HV.out] at c4
    have hlt := S1.lt
    by_cases hi : m < l.events.length
    · obtain ⟨x, hx⟩ : ∃ x, l.events[m]? = some x := ⟨_, List.getElem?_eq_getElem hi⟩
      obtain ⟨ge, v, rfl, hvx, hgl, e0, e1, e2, e3, e4, hd1, hd2⟩ := S1.evAt HV.out hx
      have HR : Hid (wr.ownsRow w.heap.size 48 3 (.slice ao m co) m ((l.events.take m).flatMap mkC) ∧ Below w.heap.size w wr ∧ l.events[m]? = some x) := ⟨hown, hb, hx⟩
      obtain ⟨k, rfl⟩ : ∃ k, gk = k + 1 := ⟨gk - 1, by omega⟩
      have hwr : w.heap.size ≤ wr.heap.size := hb.size
      clear hown hb hx S1 hvx e0 e1
      go_wp2_with (at_builtin; refine wpList_append_lies _ rfl (.tmp 19) (.tmp 31) 276 rfl w.heap.size 48 i0 _ 3 3 Tryz.underlying276 hi0 hz0 hz1 hz2 rfl (by decide) (.slice ao m co) m _ (by simp [Act.eval, Act.put]) (HR.out.1.alloc _) ⟨wr.heap.size, 0, none⟩ 1 1 [.bool x.done, .bool x.inn, .bool x.due] (by simp [Act.eval, Act.put]) rfl (by exact news_l (by simp)) (by intro u hu; simp at hu; rcases hu with rfl | rfl | rfl <;> rfl) (by decide) (by unfold maxLen; omega) (by omega) (by simp; omega) _ rfl ?_; intro g' cap w5 hown hgrow hat hlt5)
      have b5 : Below w.heap.size w w5 := (HR.out.2.1.alloc hwr _).grown hgrow (by simp; omega) (fun k hk => (HR.out.1.lt k hk).1)
      go_roundg k
      case measure => omega
      case rel => exact ⟨m + 1, by go_num, by omega, by rw [List.take_add_one, HR.out.2.2, List.flatMap_append]; simpa [mkC] using hown, b5⟩
    · have hml : m = l.events.length := by omega
      subst hml
      rw [List.take_length] at hown
      have HO : Hid (wr.ownsRow w.heap.size 48 3 (.slice ao l.events.length co) l.events.length (l.events.flatMap mkC) ∧ Below w.heap.size w wr) := ⟨hown, hb⟩
      clear hown hb S1
      go_wp2_with fail
      obtain ⟨w2, hw2⟩ : ∃ w2, w2 = wr := ⟨_, rfl⟩
      subst hw2
      clear k0 k1 c4 hlt hcb1
      go_loopg [3, 5] reqs.length (fun g v i wr => ∃ k : Nat, i = .int .i64 k ∧ k + g = reqs.length ∧ wr.ownsRow w.heap.size 48 3 v (marksQ l (reqs.take k)).length ((marksQ l (reqs.take k)).flatMap mkC) ∧ Below w.heap.size w wr)
      case atStart => exact ⟨0, rfl, by omega, HO.out.1, HO.out.2⟩
      case round =>
        obtain ⟨k, rfl, hk, hown, hb⟩ := hrel
        obtain ⟨ao, co, rfl⟩ := owned_shape hown
        have k0 := (hb.cell (p := ⟨cb, 0, none⟩) hcb).trans hc0
        have k1 := (hb.cell (p := ⟨cb, 1, none⟩) hcb).trans hc1
        have hcb1 : cb < wr.heap.size := Nat.lt_of_lt_of_le hcb hb.size
        by_cases hi : k < reqs.length
        · obtain ⟨x, hx⟩ : ∃ x, reqs[k]? = some x := ⟨_, List.getElem?_eq_getElem hi⟩
          obtain ⟨evs, hevs⟩ : ∃ evs, evs = marksQ l (reqs.take k) := ⟨_, rfl⟩
          rw [← hevs] at hown
          rw [← hevs]
          have hmk : MkOf l evs := by rw [hevs]; exact MkOf.marks l _
          obtain ⟨gq, rfl, hcq1, hcq2⟩ := own_some H.out.2.1 (by omega)
          obtain ⟨y0, y1, hgq⟩ := rq_at H.out.2.1 hx
          have z0 := (hb.cell (p := ⟨gq, k * 2, none⟩) hgq).trans y0
          have z1 := (hb.cell (p := ⟨gq, k * 2 + 1, none⟩) hgq).trans y1
          obtain ⟨j, rfl⟩ : ∃ j, gk = j + 1 := ⟨gk - 1, by omega⟩
          have HR : Hid (wr.ownsRow w.heap.size 48 3 (.slice ao evs.length co) evs.length (evs.flatMap mkC) ∧ Below w.heap.size w wr ∧ reqs[k]? = some x ∧ evs = marksQ l (reqs.take k) ∧ MkOf l evs ∧ LkAt B b wr l s) := ⟨hown, hb, hx, hevs, hmk, H.out.1.aside hb⟩
          have HLd : Hid (LkAt B b wr.drew l s) := HR.out.2.2.2.2.2.aside (Below.refl _ _).drew
          have HMd : Hid (wr.drew.ownsRow w.heap.size 48 3 (.slice ao evs.length co) evs.length (evs.flatMap mkC)) := hown.drew
          obtain ⟨xr, xe⟩ := x
          clear hown hb hx hevs hmk
          go_wp2_with fail
          go_cut [6] from 33 to 70 (fun vv wd => vv = .int .u8 (saysQ l evs xr xe : Nat) ∧ Below wr.heap.size wr wd)
          case first =>
            go_region_with (go_at_call 170; refine (rSays_any xr xe HLd.out HMd.out HR.out.2.2.2.2.1 H.out.2.2.1).mono ?_; rintro e w4 ⟨rfl, b4⟩)
            all_goals
              go_wp2_with fail
              go_meet
              case rel => exact ⟨rfl, ⟨b4.os, b4.tape, b4.output, b4.size, b4.block⟩⟩
          case rest =>
            obtain ⟨rfl, b4⟩ := hcut
            have j0 := (b4.cell (p := ⟨cb, 0, none⟩) hcb1).trans k0
            have j1 := (b4.cell (p := ⟨cb, 1, none⟩) hcb1).trans k1
            have hgq1 : gq < wr.heap.size := World.block_lt_of_cell? _ _ z0
            have x1 := (b4.cell (p := ⟨gq, k * 2 + 1, none⟩) hgq1).trans z1
            have hcb2 : cb < wc.heap.size := Nat.lt_of_lt_of_le hcb1 b4.size
            have hgq2 : gq < wc.heap.size := Nat.lt_of_lt_of_le hgq1 b4.size
            have HB4 : Hid (Below w.heap.size w wc ∧ wc.ownsRow w.heap.size 48 3 (.slice ao evs.length co) evs.length (evs.flatMap mkC)) := ⟨HR.out.2.1.trans (b4.mono HR.out.2.1.size), ownsRow_of_block HR.out.1 (fun k hk _ => b4.block k hk)⟩
            clear b4
            have HN : Hid (marksQ l (reqs.take (k + 1)) = nextQ l evs (xr, xe)) := by
              show _ = _
              rw [List.take_add_one, HR.out.2.2.1, HR.out.2.2.2.1]
              exact marksQ_snoc _ _ _
            have HLd2 : Hid (LkAt B b wc.drew l s) := H.out.1.aside HB4.out.1.drew
            have HMd2 : Hid (wc.drew.ownsRow w.heap.size 48 3 (.slice ao evs.length co) evs.length (evs.flatMap mkC)) := HB4.out.2.drew
            by_cases hs0 : saysQ l evs xr xe = 0
            · have HP : Hid (nextQ l evs (xr, xe) = evs.map (doneQ l.rules xe)) := if_pos hs0
              rw [hs0]
              clear hs0
              go_wp2_with fail
              go_region_with (go_at_call 222; refine (rDone_any xe HLd2.out HMd2.out HR.out.2.2.2.2.1 H.out.2.2.1.rls (by have := H.out.2.2.1.evs; omega)).mono ?_; rintro e w4 ⟨v4, rfl, o4, b4⟩)
              all_goals
                have HF : Hid (w4.ownsRow w.heap.size 48 3 v4 (evs.map (doneQ l.rules xe)).length ((evs.map (doneQ l.rules xe)).flatMap mkC) ∧ Below w.heap.size w w4) := ⟨by rw [List.length_map]; exact own_mono o4 HB4.out.1.size, HB4.out.1.trans ((⟨b4.os, b4.tape, b4.output, b4.size, b4.block⟩ : Below wc.heap.size wc w4).mono HB4.out.1.size)⟩
                clear o4 b4
                go_wp2_with fail
                go_roundg j
                case measure => omega
                case rel => exact ⟨k + 1, by go_num, by omega, by rw [HN.out, HP.out]; exact HF.out.1, HF.out.2⟩
            · have HP : Hid (nextQ l evs (xr, xe) = evs) := if_neg hs0
              have hs1 : ((saysQ l evs xr xe : Int) == 0) = false := by simp; omega
              clear hs0
              go_wp2_with fail
              go_roundg j
              case measure => omega
              case rel => exact ⟨k + 1, by go_num, by omega, by rw [HN.out, HP.out]; exact HB4.out.2, HB4.out.1⟩
        · have hkl : k = reqs.length := by omega
          subst hkl
          rw [List.take_length] at hown
          have HE : Hid (wr.ownsRow w.heap.size 48 3 (.slice ao (marksQ l (reqs.take reqs.length)).length co) (marksQ l reqs).length ((marksQ l reqs).flatMap mkC) ∧ Below w.heap.size w wr) := ⟨by rw [List.take_length]; exact hown, hb⟩
          clear hown hb
          go_wp2_with fail
          go_ret
          exact ⟨_, rfl, HE.out.1, HE.out.2⟩
end Go.Proofs.YtjmcokcdaddpcaaGreatDoor
