import Derived.Test.YtjmcokcdaddpcaaGreatDoorUc
import Derived.Laws.Cover1
import Derived.Test.YtjmcokcdaddpcaaGreatDoorPure5
set_option linter.unusedVariables false
set_option linter.unusedSimpArgs false
namespace Go.Proofs.YtjmcokcdaddpcaaGreatDoor
open Go.RowKit
theorem LkAt.aside {B b : Nat} {w w' : World} {l : LK} {s : LS} (h : LkAt B b w l s) (hb : Below w.heap.size w w') : LkAt B b w' l s := ((LNext.refl h).aside hb).lk
theorem LkAt.shapes {B b : Nat} {w : World} {l : LK} {s : LS} (h : LkAt B b w l s) : ∃ ae ce ar cr au cu, s.ve = .slice ae l.events.length ce ∧ s.vr = .slice ar l.rules.length cr ∧ s.vu = .slice au l.uses.length cu := by
  obtain ⟨ae, ce, h1⟩ := owned_shape h.own0
  obtain ⟨ar, cr, h2⟩ := owned_shape h.own1
  obtain ⟨au, cu, h3⟩ := owned_shape h.own2
  exact ⟨ae, ce, ar, cr, au, cu, h1, h2, h3⟩
theorem own_some {w : World} {B : Nat} {e : TypeId} {m n c : Nat} {a : Option Addr} {xs : List Value} (h : w.ownsRow B e m (.slice a n c) n xs) (hn : 0 < n) : ∃ g, a = some ⟨g, 0, none⟩ ∧ n ≤ c ∧ c ≤ maxLen := by
  rcases h.2 with ⟨_, h1⟩ | ⟨g, c', cur, h1, _, h2, h3, h4, _⟩
  · omega
  · injection h1 with h1 h5 h6
    subst h6
    exact ⟨g, h1, h3, h4⟩
theorem LkAt.evAt {B b : Nat} {w : World} {l : LK} {s : LS} {ae : Option Addr} {ce : Nat} (h : LkAt B b w l s) (hv : s.ve = .slice ae l.events.length ce) {i : Nat} {x : Dsr.Ev} (hx : l.events[i]? = some x) : ∃ g v, ae = some ⟨g, 0, none⟩ ∧ s.rv[i]? = some v ∧ g < w.heap.size ∧
    w.cell? ⟨g, i * 5, none⟩ = some (strV x.name) ∧ w.cell? ⟨g, i * 5 + 1, none⟩ = some v ∧ w.cell? ⟨g, i * 5 + 2, none⟩ = some (.bool x.done) ∧ w.cell? ⟨g, i * 5 + 3, none⟩ = some (.bool x.inn) ∧ w.cell? ⟨g, i * 5 + 4, none⟩ = some (.bool x.due) ∧ l.events.length ≤ ce ∧ ce ≤ maxLen := by
  have hi : i < l.events.length := (List.getElem?_eq_some_iff.1 hx).1
  have ho := h.own0
  rw [hv] at ho
  obtain ⟨g, rfl, hc, hc2⟩ := own_some ho (by omega)
  obtain ⟨v, hvx⟩ : ∃ v, s.rv[i]? = some v := ⟨_, List.getElem?_eq_getElem (by rw [h.len]; omega)⟩
  have e := fun j hj => evCells_at2 l.events s.rv i x v j hx hvx hj
  have e0 := own_at ho ((e 0 (by omega)).trans rfl)
  exact ⟨g, v, rfl, hvx, World.block_lt_of_cell? _ _ e0, e0, own_at ho ((e 1 (by omega)).trans rfl), own_at ho ((e 2 (by omega)).trans rfl), own_at ho ((e 3 (by omega)).trans rfl), own_at ho ((e 4 (by omega)).trans rfl), hc, hc2⟩
theorem LkAt.ruAt {B b : Nat} {w : World} {l : LK} {s : LS} {ar : Option Addr} {cr : Nat} (h : LkAt B b w l s) (hv : s.vr = .slice ar l.rules.length cr) {i : Nat} {x : RR} (hx : l.rules[i]? = some x) : ∃ g, ar = some ⟨g, 0, none⟩ ∧ g < w.heap.size ∧
    w.cell? ⟨g, i * 3, none⟩ = some (.int .i64 x.sign) ∧ w.cell? ⟨g, i * 3 + 1, none⟩ = some (strV x.left) ∧ w.cell? ⟨g, i * 3 + 2, none⟩ = some (strV x.right) ∧ l.rules.length ≤ cr ∧ cr ≤ maxLen := by
  have hi : i < l.rules.length := (List.getElem?_eq_some_iff.1 hx).1
  have ho := h.own1
  rw [hv] at ho
  obtain ⟨g, rfl, hc, hc2⟩ := own_some ho (by omega)
  have e := fun j hj => flatM2 3 rrC (fun _ => rfl) l.rules i x j hx hj
  have e0 := own_at ho ((e 0 (by omega)).trans rfl)
  exact ⟨g, rfl, World.block_lt_of_cell? _ _ e0, e0, own_at ho ((e 1 (by omega)).trans rfl), own_at ho ((e 2 (by omega)).trans rfl), hc, hc2⟩
theorem LkAt.usAt {B b : Nat} {w : World} {l : LK} {s : LS} {au : Option Addr} {cu : Nat} (h : LkAt B b w l s) (hv : s.vu = .slice au l.uses.length cu) {i : Nat} {x : RU} (hx : l.uses[i]? = some x) : ∃ g, au = some ⟨g, 0, none⟩ ∧ g < w.heap.size ∧
    w.cell? ⟨g, i * 6, none⟩ = some (strV x.tk.text) ∧ w.cell? ⟨g, i * 6 + 1, none⟩ = some (.int .i64 x.tk.at_) ∧ w.cell? ⟨g, i * 6 + 2, none⟩ = some (.bool (isW x.tk)) ∧ w.cell? ⟨g, i * 6 + 3, none⟩ = some (.int .i64 (sgn x.tk)) ∧ w.cell? ⟨g, i * 6 + 4, none⟩ = some (.int .i64 x.what) ∧ w.cell? ⟨g, i * 6 + 5, none⟩ = some (.int .i64 x.line) ∧ l.uses.length ≤ cu ∧ cu ≤ maxLen := by
  have hi : i < l.uses.length := (List.getElem?_eq_some_iff.1 hx).1
  have ho := h.own2
  rw [hv] at ho
  obtain ⟨g, rfl, hc, hc2⟩ := own_some ho (by omega)
  have e := fun j hj => flatM2 6 ruC (fun _ => rfl) l.uses i x j hx hj
  have e0 := own_at ho ((e 0 (by omega)).trans rfl)
  exact ⟨g, rfl, World.block_lt_of_cell? _ _ e0, e0, own_at ho ((e 1 (by omega)).trans rfl), own_at ho ((e 2 (by omega)).trans rfl), own_at ho ((e 3 (by omega)).trans rfl), own_at ho ((e 4 (by omega)).trans rfl), own_at ho ((e 5 (by omega)).trans rfl), hc, hc2⟩
/-- The number of an event. -/
def findI : List Dsr.Ev → List UInt8 → Nat → Int
  | [], _, _ => -1
  | x :: es, t, k => if x.name = t then k else findI es t (k + 1)
abbrev ptrG (b : Nat) : Value := .pointer (some ⟨b, 4, none⟩)
theorem drop_at {α : Type} {l : List α} {k : Nat} {x : α} (h : l[k]? = some x) : l.drop k = x :: l.drop (k + 1) := by
  obtain ⟨hk, e⟩ := List.getElem?_eq_some_iff.1 h
  rw [List.drop_eq_getElem_cons hk, e]
set_option maxRecDepth 100000 in
set_option maxHeartbeats 1600000 in
theorem rFind_any {B b : Nat} {w : World} {l : LK} {s : LS} (t : List UInt8) (h : LkAt B b w l s) (hl : l.events.length ≤ 1000) :
    Calls Tryz.prog 116 #[ptrG b, strV t] w fun e w' => e = .returned (.int .i64 (findI l.events t 0)) ∧ Below w.heap.size w w' := by
  obtain ⟨ae, ce, ar, cr, au, cu, hve, hvr, hvu⟩ := h.shapes
  have HV : Hid (s.ve = .slice ae l.events.length ce) := hve
  have H : Hid (LkAt B b w l s) := h
  have hz : (l.events.length : Int) ≤ 1000 := by omega
  clear h hve hvr hvu
  go_enter Tryz.func116, Tryz.ntmps116
  go_wp2_with fail
  go_loopg [5] l.events.length (fun g i wr => ∃ n : Nat, i = .int .i64 n ∧ n + g = l.events.length ∧ findI (l.events.drop n) t n = findI l.events t 0 ∧ Below w.heap.size w wr)
  case atStart => exact ⟨0, rfl, by omega, rfl, Below.refl _ _⟩
  case round =>
    obtain ⟨n, rfl, hn, ha, hb⟩ := hrel
    have hl1 := H.out.aside hb
    obtain ⟨c0, c1, c2, c3, c4, c5, c6, c7, c8, fz⟩ := hl1.cells
    rw [HV.out] at c4
    have hlt := hl1.lt
    by_cases hi : n < l.events.length
    · obtain ⟨x, hx⟩ : ∃ x, l.events[n]? = some x := ⟨_, List.getElem?_eq_getElem hi⟩
      obtain ⟨ge, v, rfl, hvx, hgl, e0, e1, e2, e3, e4, hc1, hc2⟩ := hl1.evAt HV.out hx
      obtain ⟨m, rfl⟩ : ∃ m, gk = m + 1 := ⟨gk - 1, by omega⟩
      rw [drop_at hx, findI] at ha
      have HH : Hid ((if x.name = t then (n : Int) else findI (l.events.drop (n + 1)) t (n + 1)) = findI l.events t 0 ∧ Below w.heap.size w wr) := ⟨ha, hb⟩
      clear ha hb hl1 hvx c0 c1 c2 c3 c5 c6 c7 c8
      rcases hq : (x.name == t) with _ | _
      · have HQ : Hid (¬ x.name = t) := (beq_eq_false_iff_ne.1 hq : ¬ x.name = t)
        go_wp2_with fail
        go_roundg m
        case measure => omega
        case rel =>
          have e1 := HH.out.1
          rw [if_neg HQ.out] at e1
          exact ⟨n + 1, by go_num, by omega, e1, HH.out.2⟩
      · have HQ : Hid (x.name = t) := (beq_iff_eq.1 hq : x.name = t)
        go_wp2_with fail
        go_ret
        have e1 := HH.out.1
        rw [if_pos HQ.out] at e1
        exact ⟨by rw [← e1]; rfl, HH.out.2⟩
    · have e1 : findI l.events t 0 = -1 := by rw [← ha, List.drop_eq_nil_of_le (by omega)]; rfl
      have HH : Hid (findI l.events t 0 = -1 ∧ Below w.heap.size w wr) := ⟨e1, hb⟩
      have hnl : n = l.events.length := by omega
      clear ha hb hl1 c0 c1 c2 c3 c5 c6 c7 c8 e1
      subst hnl
      go_wp2_with fail
      go_ret
      exact ⟨by rw [HH.out.1]; rfl, HH.out.2⟩
def hasR (rs : List RR) (sg : Int) (a b : List UInt8) : Bool := rs.any fun r => ((r.sign : Int) == sg) && (r.left == a) && (r.right == b)
theorem hasR_at {rs : List RR} {k : Nat} {x : RR} (h : rs[k]? = some x) (sg : Int) (a b : List UInt8) : hasR (rs.drop k) sg a b = ((((x.sign : Int) == sg) && (x.left == a) && (x.right == b)) || hasR (rs.drop (k + 1)) sg a b) := by
  unfold hasR
  rw [drop_at h, List.any_cons]
set_option maxRecDepth 100000 in
set_option maxHeartbeats 1600000 in
theorem rHas_any {B b : Nat} {w : World} {l : LK} {s : LS} (sg : Int) (t u : List UInt8) (h : LkAt B b w l s) (hl : l.rules.length ≤ 1000) :
    Calls Tryz.prog 119 #[ptrG b, .int .i64 sg, strV t, strV u] w fun e w' => e = .returned (.bool (hasR l.rules sg t u)) ∧ Below w.heap.size w w' := by
  obtain ⟨ae, ce, ar, cr, au, cu, hve, hvr, hvu⟩ := h.shapes
  have HV : Hid (s.vr = .slice ar l.rules.length cr) := hvr
  have H : Hid (LkAt B b w l s) := h
  have hz : (l.rules.length : Int) ≤ 1000 := by omega
  clear h hve hvr hvu
  go_enter Tryz.func119, Tryz.ntmps119
  go_wp2_with fail
  go_loopg [9] l.rules.length (fun g i wr => ∃ n : Nat, i = .int .i64 n ∧ n + g = l.rules.length ∧ hasR (l.rules.drop n) sg t u = hasR l.rules sg t u ∧ Below w.heap.size w wr)
  case atStart => exact ⟨0, rfl, by omega, rfl, Below.refl _ _⟩
  case round =>
    obtain ⟨n, rfl, hn, ha, hb⟩ := hrel
    have hl1 := H.out.aside hb
    obtain ⟨c0, c1, c2, c3, c4, c5, c6, c7, c8, fz⟩ := hl1.cells
    rw [HV.out] at c5
    have hlt := hl1.lt
    by_cases hi : n < l.rules.length
    · obtain ⟨x, hx⟩ : ∃ x, l.rules[n]? = some x := ⟨_, List.getElem?_eq_getElem hi⟩
      obtain ⟨ge, rfl, hgl, e0, e1, e2, hc1, hc2⟩ := hl1.ruAt HV.out hx
      obtain ⟨m, rfl⟩ : ∃ m, gk = m + 1 := ⟨gk - 1, by omega⟩
      rw [hasR_at hx] at ha
      have HH : Hid (((((x.sign : Int) == sg) && (x.left == t) && (x.right == u)) || hasR (l.rules.drop (n + 1)) sg t u) = hasR l.rules sg t u ∧ Below w.heap.size w wr) := ⟨ha, hb⟩
      clear ha hb hl1 c0 c1 c2 c3 c4 c6 c7 c8
      by_cases h1 : (x.sign : Int) = sg
      · by_cases h2 : x.left = t
        · by_cases h3 : x.right = u
          · have HF : Hid ((((x.sign : Int) == sg) && (x.left == t) && (x.right == u)) = true) := (by simp [h1, h2, h3] : (((x.sign : Int) == sg) && (x.left == t) && (x.right == u)) = true)
            go_wp2_with fail
            go_ret
            have e1 := HH.out.1
            rw [HF.out, Bool.true_or] at e1
            exact ⟨by rw [← e1]; rfl, HH.out.2⟩
          · have HF : Hid ((((x.sign : Int) == sg) && (x.left == t) && (x.right == u)) = false) := (by simp [h3] : (((x.sign : Int) == sg) && (x.left == t) && (x.right == u)) = false)
            go_wp2_with fail
            go_roundg m
            case measure => omega
            case rel =>
              have e1 := HH.out.1
              rw [HF.out, Bool.false_or] at e1
              exact ⟨n + 1, by go_num, by omega, e1, HH.out.2⟩
        · have HF : Hid ((((x.sign : Int) == sg) && (x.left == t) && (x.right == u)) = false) := (by simp [h2] : (((x.sign : Int) == sg) && (x.left == t) && (x.right == u)) = false)
          go_wp2_with fail
          go_roundg m
          case measure => omega
          case rel =>
            have e1 := HH.out.1
            rw [HF.out, Bool.false_or] at e1
            exact ⟨n + 1, by go_num, by omega, e1, HH.out.2⟩
      · have HF : Hid ((((x.sign : Int) == sg) && (x.left == t) && (x.right == u)) = false) := (by simp [h1] : (((x.sign : Int) == sg) && (x.left == t) && (x.right == u)) = false)
        go_wp2_with fail
        go_roundg m
        case measure => omega
        case rel =>
          have e1 := HH.out.1
          rw [HF.out, Bool.false_or] at e1
          exact ⟨n + 1, by go_num, by omega, e1, HH.out.2⟩
    · have e1 : hasR l.rules sg t u = false := by rw [← ha, List.drop_eq_nil_of_le (by omega)]; rfl
      have HH : Hid (hasR l.rules sg t u = false ∧ Below w.heap.size w wr) := ⟨e1, hb⟩
      have hnl : n = l.rules.length := by omega
      clear ha hb hl1 c0 c1 c2 c3 c4 c6 c7 c8 e1
      subst hnl
      go_wp2_with fail
      go_ret
      exact ⟨by rw [HH.out.1]; rfl, HH.out.2⟩
end Go.Proofs.YtjmcokcdaddpcaaGreatDoor
set_option linter.unusedVariables false
set_option linter.unusedSimpArgs false
namespace Go.Proofs.YtjmcokcdaddpcaaGreatDoor
open Go.RowKit
def clash (u v : RU) : Bool := ((v.what : Int) == (u.what : Int)) && ((v.tk.text == u.tk.text) && (((u.what : Int) == 1) || ((v.line : Int) == (u.line : Int))))
def badU (es : List Dsr.Ev) (pre : List RU) (u : RU) : Bool := (((u.what : Int) == 3) && decide (findI es u.tk.text 0 < 0)) || (decide ((u.what : Int) < 3) && pre.any (clash u))
def wrongR (es : List Dsr.Ev) : List RU → List RU → Option Nat
  | _, [] => none
  | pre, u :: us => if badU es pre u = true then some u.tk.at_ else wrongR es (pre ++ [u]) us
def optI : Option Nat → Int
  | some a => a
  | none => -1
theorem rFind_at {B b : Nat} {w : World} {l : LK} {s : LS} (t : List UInt8) (q : Int) (hq : findI l.events t 0 = q) (h : LkAt B b w l s) (hl : l.events.length ≤ 1000) :
    Calls Tryz.prog 116 #[ptrG b, strV t] w fun e w' => e = .returned (.int .i64 q) ∧ Below w.heap.size w w' := by
  subst hq; exact rFind_any t h hl
theorem take_at {α : Type} {l : List α} {k : Nat} {x : α} (h : l[k]? = some x) : l.take (k + 1) = l.take k ++ [x] := by
  rw [List.take_add_one, h]; rfl
theorem use_cells {w : World} {n : Nat} {a b c d e f : Value} (h : w.heap[n]? = some (.cells #[a, b, c, d, e, f] 271 (0, 0))) : w.cell? ⟨n, 0, none⟩ = some a ∧ w.cell? ⟨n, 1, none⟩ = some b ∧ w.cell? ⟨n, 2, none⟩ = some c ∧ w.cell? ⟨n, 3, none⟩ = some d ∧ w.cell? ⟨n, 4, none⟩ = some e ∧ w.cell? ⟨n, 5, none⟩ = some f := by
  refine ⟨?_, ?_, ?_, ?_, ?_, ?_⟩ <;> simp [World.cell?, h]
theorem any_of {us : List RU} {j n : Nat} {y : RU} {p : RU → Bool} (h : us[j]? = some y) (hj : j < n) (hp : p y = true) : (us.take n).any p = true := by
  rw [List.any_eq_true]
  refine ⟨y, ?_, hp⟩
  apply List.mem_of_getElem? (i := j)
  rw [List.getElem?_take_of_lt hj]
  exact h
set_option maxRecDepth 100000 in
set_option maxHeartbeats 3200000 in
theorem rwrong_any {B b : Nat} {w : World} {l : LK} {s : LS} (h : LkAt B b w l s) (hl : l.events.length ≤ 1000) (hlu : l.uses.length ≤ 1000) :
    Calls Tryz.prog 114 #[ptrG b] w fun e w' => e = .returned (.int .i64 (optI (wrongR l.events [] l.uses))) ∧ Below w.heap.size w w' := by
  obtain ⟨ae, ce, ar, cr, au, cu, hve, hvr, hvu⟩ := h.shapes
  have HV : Hid (s.vu = .slice au l.uses.length cu) := hvu
  have H : Hid (LkAt B b w l s) := h
  have hz : (l.uses.length : Int) ≤ 1000 := by omega
  clear h hve hvr hvu
  go_enter Tryz.func114, Tryz.ntmps114
  go_wp2_with fail
  go_loopg [3] l.uses.length (fun g i wr => ∃ n : Nat, i = .int .i64 n ∧ n + g = l.uses.length ∧ wrongR l.events (l.uses.take n) (l.uses.drop n) = wrongR l.events [] l.uses ∧ Below w.heap.size w wr)
  case atStart => exact ⟨0, rfl, by omega, rfl, Below.refl _ _⟩
  case round =>
    obtain ⟨wo, hwo⟩ : ∃ wo, wo = wr := ⟨_, rfl⟩
    subst hwo
    obtain ⟨n, rfl, hn, ha, hb⟩ := hrel
    have hl1 := H.out.aside hb
    obtain ⟨c0, c1, c2, c3, c4, c5, c6, c7, c8, fz⟩ := hl1.cells
    rw [HV.out] at c6
    have hlt := hl1.lt
    by_cases hi : n < l.uses.length
    · obtain ⟨x, hx⟩ : ∃ x, l.uses[n]? = some x := ⟨_, List.getElem?_eq_getElem hi⟩
      obtain ⟨ge, rfl, hgl, e0, e1, e2, e3, e4, e5, hc1, hc2⟩ := hl1.usAt HV.out hx
      obtain ⟨m, rfl⟩ : ∃ m, gk = m + 1 := ⟨gk - 1, by omega⟩
      rw [drop_at hx, wrongR] at ha
      have HH : Hid ((if badU l.events (l.uses.take n) x = true then some x.tk.at_ else wrongR l.events (l.uses.take n ++ [x]) (l.uses.drop (n + 1))) = wrongR l.events [] l.uses ∧ Below w.heap.size w wo ∧ l.uses[n]? = some x) := ⟨ha, hb, hx⟩
      have HL : Hid (LkAt B b wo l s) := hl1
      clear ha hb hl1 c0 c1 c2 c3 c4 c5 c7 c8 hx
      obtain ⟨q, hq⟩ : ∃ q, findI l.events x.tk.text 0 = q := ⟨_, rfl⟩
      have HF : Hid (findI l.events x.tk.text 0 = q) := hq
      clear hq
      go_wp2_with fail
      refine (rFind_at x.tk.text q HF.out (HL.out.aside (below_alloc1 _)) hl).mono ?_
      rintro e w1 ⟨rfl, b1⟩
      have q1 : w1.heap[wo.heap.size]? = some (.cells #[strV x.tk.text, .int .i64 x.tk.at_, .bool (isW x.tk), .int .i64 (sgn x.tk), .int .i64 x.what, .int .i64 x.line] 271 (0, 0)) := (b1.block _ (by simp)).trans (heap_alloc_new _ _)
      have HB1 : Hid (Below w.heap.size w w1) := HH.out.2.1.trans (((below_alloc1 _).trans (b1.mono (by simp))).mono HH.out.2.1.size)
      have hs1 : wo.heap.size < w1.heap.size := by have := b1.size; simp at this; omega
      have HQ1 : Hid (w1.heap[wo.heap.size]? = some (.cells #[strV x.tk.text, .int .i64 x.tk.at_, .bool (isW x.tk), .int .i64 (sgn x.tk), .int .i64 x.what, .int .i64 x.line] 271 (0, 0))) := q1
      obtain ⟨z0, z1, z2, z3, z4, z5⟩ := use_cells q1
      clear b1 q1 e0 e1 e2 e3 e4 e5
      by_cases hw3 : (x.what : Int) < 3
      · have hw3' : ((x.what : Int) == 3) = false := by simp; omega
        go_wp2_with fail
        have HW3 : Hid ((x.what : Int) < 3) := hw3
        go_loopg [6] n (fun g2 k wq => ∃ j : Nat, k = .int .i64 j ∧ j + g2 = n ∧ (l.uses.take j).any (clash x) = false ∧ Below w.heap.size w wq ∧ wo.heap.size < wq.heap.size ∧ wq.heap[wo.heap.size]? = some (.cells #[strV x.tk.text, .int .i64 x.tk.at_, .bool (isW x.tk), .int .i64 (sgn x.tk), .int .i64 x.what, .int .i64 x.line] 271 (0, 0)))
        case atStart => exact ⟨0, rfl, by omega, rfl, HB1.out, hs1, HQ1.out⟩
        case round =>
          obtain ⟨j, rfl, hj, hany, hb3, hsz, hq3⟩ := hrel
          have hl3 := H.out.aside hb3
          obtain ⟨c0, c1, c2, c3, c4, c5, c6, c7, c8, fz⟩ := hl3.cells
          rw [HV.out] at c6
          have hlt3 := hl3.lt
          clear z0 z1 z2 z3 z4 z5
          obtain ⟨z0, z1, z2, z3, z4, z5⟩ := use_cells hq3
          by_cases hjn : j < n
          · obtain ⟨y, hy⟩ : ∃ y, l.uses[j]? = some y := ⟨_, List.getElem?_eq_getElem (by omega)⟩
            obtain ⟨gf, hgf, hgl3, e0, e1, e2, e3, e4, e5, hd1, hd2⟩ := hl3.usAt HV.out hy
            obtain rfl : ge = gf := by injection hgf with h1; injection h1
            obtain ⟨m2, rfl⟩ : ∃ m2, gk = m2 + 1 := ⟨gk - 1, by omega⟩
            have HJ : Hid ((l.uses.take j).any (clash x) = false ∧ wr.heap[wo.heap.size]? = some (.cells #[strV x.tk.text, .int .i64 x.tk.at_, .bool (isW x.tk), .int .i64 (sgn x.tk), .int .i64 x.what, .int .i64 x.line] 271 (0, 0)) ∧ l.uses[j]? = some y) := ⟨hany, hq3, hy⟩
            have HB3 : Hid (Below w.heap.size w wr) := hb3
            have HN : Hid (j < n) := hjn
            clear hany hb3 hq3 hl3 hy hgf c0 c1 c2 c3 c4 c5 c7 c8
            rcases h1 : ((y.what : Int) == (x.what : Int)) with _ | _
            · have HC : Hid (clash x y = false) := (by unfold clash; rw [h1]; rfl : clash x y = false)
              go_wp2_with fail
              go_roundg m2
              case measure => omega
              case rel =>
                have hs3 := HB3.out.size
                exact ⟨j + 1, by go_num, by omega, by rw [take_at HJ.out.2.2, List.any_append, HJ.out.1, List.any_cons, HC.out]; rfl, HB3.out.trans ((below_alloc1 _).mono hs3), by simp; omega, by rw [Below.heap_alloc _ _ _ hsz]; exact HJ.out.2.1⟩
            · rcases h2 : (y.tk.text == x.tk.text) with _ | _
              · have HC : Hid (clash x y = false) := (by unfold clash; rw [h1, h2]; rfl : clash x y = false)
                go_wp2_with fail
                go_roundg m2
                case measure => omega
                case rel =>
                  have hs3 := HB3.out.size
                  exact ⟨j + 1, by go_num, by omega, by rw [take_at HJ.out.2.2, List.any_append, HJ.out.1, List.any_cons, HC.out]; rfl, HB3.out.trans ((below_alloc1 _).mono hs3), by simp; omega, by rw [Below.heap_alloc _ _ _ hsz]; exact HJ.out.2.1⟩
              · rcases h3 : ((x.what : Int) == 1) with _ | _
                · rcases h4 : ((y.line : Int) == (x.line : Int)) with _ | _
                  · have HC : Hid (clash x y = false) := (by unfold clash; rw [h1, h2, h3, h4]; rfl : clash x y = false)
                    go_wp2_with fail
                    go_roundg m2
                    case measure => omega
                    case rel =>
                      have hs3 := HB3.out.size
                      exact ⟨j + 1, by go_num, by omega, by rw [take_at HJ.out.2.2, List.any_append, HJ.out.1, List.any_cons, HC.out]; rfl, HB3.out.trans ((below_alloc1 _).mono hs3), by simp; omega, by rw [Below.heap_alloc _ _ _ hsz]; exact HJ.out.2.1⟩
                  · have HC : Hid (clash x y = true) := (by unfold clash; rw [h1, h2, h3, h4]; rfl : clash x y = true)
                    go_wp2_with fail
                    go_ret
                    have e1 := HH.out.1
                    have hs3 := HB3.out.size
                    rw [if_pos (by unfold badU; rw [decide_eq_true HW3.out, Bool.true_and, any_of HJ.out.2.2 HN.out HC.out, Bool.or_true])] at e1
                    exact ⟨by rw [← e1]; rfl, HB3.out.trans ((below_alloc1 _).mono hs3)⟩
                · have HC : Hid (clash x y = true) := (by unfold clash; rw [h1, h2, h3]; rfl : clash x y = true)
                  go_wp2_with fail
                  go_ret
                  have e1 := HH.out.1
                  have hs3 := HB3.out.size
                  rw [if_pos (by unfold badU; rw [decide_eq_true HW3.out, Bool.true_and, any_of HJ.out.2.2 HN.out HC.out, Bool.or_true])] at e1
                  exact ⟨by rw [← e1]; rfl, HB3.out.trans ((below_alloc1 _).mono hs3)⟩
          · have hjn' : j = n := by omega
            subst hjn'
            have HJ : Hid ((l.uses.take j).any (clash x) = false ∧ Below w.heap.size w wr) := ⟨hany, hb3⟩
            clear hany hb3 hl3 hq3 c0 c1 c2 c3 c4 c5 c7 c8
            go_wp2_with fail
            go_roundg m
            case measure => omega
            case rel =>
              have e1 := HH.out.1
              rw [if_neg (by unfold badU; rw [hw3', HJ.out.1, Bool.and_false, Bool.false_and]; decide)] at e1
              exact ⟨j + 1, by go_num, by omega, by rw [take_at HH.out.2.2]; exact e1, HJ.out.2⟩
      · have hw3d : decide ((x.what : Int) < 3) = false := decide_eq_false hw3
        rcases h3 : ((x.what : Int) == 3) with _ | _
        · have HX : Hid (badU l.events (l.uses.take n) x = false) := (by unfold badU; rw [h3, hw3d]; rfl : badU l.events (l.uses.take n) x = false)
          clear hw3d
          go_wp2_with fail
          go_loopg [6] 0 (fun g2 k wq => k = .int .i64 (0 : Nat) ∧ wq = w1)
          case atStart => exact ⟨rfl, rfl⟩
          case round =>
            obtain ⟨rfl, rfl⟩ := hrel
            by_cases hn0 : (0 : Int) < (n : Int)
            · go_wp2_with fail
              go_roundg m
              case measure => omega
              case rel =>
                have e1 := HH.out.1
                rw [if_neg (by rw [HX.out]; decide)] at e1
                exact ⟨n + 1, by go_num, by omega, by rw [take_at HH.out.2.2]; exact e1, HB1.out⟩
            · go_wp2_with fail
              go_roundg m
              case measure => omega
              case rel =>
                have e1 := HH.out.1
                rw [if_neg (by rw [HX.out]; decide)] at e1
                exact ⟨n + 1, by go_num, by omega, by rw [take_at HH.out.2.2]; exact e1, HB1.out⟩
        · by_cases hqn : q < 0
          · have HX : Hid (badU l.events (l.uses.take n) x = true) := (by unfold badU; rw [h3, HF.out, decide_eq_true hqn]; rfl : badU l.events (l.uses.take n) x = true)
            clear hw3d
            go_wp2_with fail
            go_ret
            have e1 := HH.out.1
            rw [if_pos HX.out] at e1
            exact ⟨by rw [← e1]; rfl, HB1.out⟩
          · have HX : Hid (badU l.events (l.uses.take n) x = false) := (by unfold badU; rw [h3, HF.out, decide_eq_false hqn, hw3d]; rfl : badU l.events (l.uses.take n) x = false)
            clear hw3d
            go_wp2_with fail
            go_loopg [6] 0 (fun g2 k wq => k = .int .i64 (0 : Nat) ∧ wq = w1)
            case atStart => exact ⟨rfl, rfl⟩
            case round =>
              obtain ⟨rfl, rfl⟩ := hrel
              by_cases hn0 : (0 : Int) < (n : Int)
              · go_wp2_with fail
                go_roundg m
                case measure => omega
                case rel =>
                  have e1 := HH.out.1
                  rw [if_neg (by rw [HX.out]; decide)] at e1
                  exact ⟨n + 1, by go_num, by omega, by rw [take_at HH.out.2.2]; exact e1, HB1.out⟩
              · go_wp2_with fail
                go_roundg m
                case measure => omega
                case rel =>
                  have e1 := HH.out.1
                  rw [if_neg (by rw [HX.out]; decide)] at e1
                  exact ⟨n + 1, by go_num, by omega, by rw [take_at HH.out.2.2]; exact e1, HB1.out⟩
    · have e1 : wrongR l.events [] l.uses = none := by rw [← ha, List.drop_eq_nil_of_le (by omega)]; rfl
      have HH : Hid (wrongR l.events [] l.uses = none ∧ Below w.heap.size w wo) := ⟨e1, hb⟩
      have hnl : n = l.uses.length := by omega
      clear ha hb hl1 c0 c1 c2 c3 c4 c5 c7 c8 e1
      subst hnl
      go_wp2_with fail
      go_ret
      exact ⟨by rw [HH.out.1]; rfl, HH.out.2⟩
end Go.Proofs.YtjmcokcdaddpcaaGreatDoor
set_option linter.unusedVariables false
set_option linter.unusedSimpArgs false
namespace Go.Proofs.YtjmcokcdaddpcaaGreatDoor
open Go.RowKit
theorem str_at {w : World} {B g c n : Nat} {xs : List (List UInt8)} (h : w.ownsRow B 9 1 (.slice (some ⟨g, 0, none⟩) n c) n (xs.map strV)) {i : Nat} {x : List UInt8} (hx : xs[i]? = some x) : w.cell? ⟨g, i, none⟩ = some (strV x) := own_at h (by rw [List.getElem?_map, hx]; rfl)
def bestP (last : List UInt8) : List UInt8 → List (List UInt8) → List UInt8
  | best, [] => best
  | best, x :: xs => bestP last (if last < x ∧ (best = [] ∨ x < best) then x else best) xs
def cntP (last : List UInt8) (xs : List (List UInt8)) : Nat := xs.countP fun x => decide (last < x)
structure OrdOf (xs : List (List UInt8)) (last : List UInt8) (out : List (List UInt8)) : Prop where
  sorted : out.Pairwise (· < ·)
  inn : ∀ x ∈ out, x ∈ xs ∧ x ≠ [] ∧ ¬ last < x
  all : ∀ x ∈ xs, x ≠ [] → ¬ last < x → x ∈ out
theorem bless : ∀ (x y : List UInt8), Op.bytesLess x y = decide (x < y)
  | [], [] => by simp [Op.bytesLess]
  | _ :: _, [] => by simp [Op.bytesLess]
  | [], _ :: _ => by simp [Op.bytesLess]
  | a :: x, b :: y => by
    rw [Op.bytesLess, bless x y]
    simp only [List.cons_lt_cons_iff]
    by_cases h1 : a < b <;> by_cases h2 : a = b <;> by_cases h3 : x < y <;> simp [h1, h2, h3]
theorem le_lt {a b : List UInt8} (h : ¬ b < a) : a < b ∨ a = b := by
  by_cases h2 : a < b
  · exact .inl h2
  · exact .inr (List.le_antisymm (List.not_lt.1 h) (List.not_lt.1 h2))
theorem bgt {x y : List UInt8} : y < x ↔ (Op.bytesLess x y = false ∧ ¬ x = y) := by
  rw [bless, decide_eq_false_iff_not]
  constructor
  · intro h
    exact ⟨List.lt_asymm h, fun e => by subst e; exact List.lt_irrefl _ h⟩
  · rintro ⟨h1, h2⟩
    rcases le_lt h1 with h | h
    · exact h
    · exact absurd h.symm h2
theorem best_yes {last x best : List UInt8} (h1 : Op.bytesLess x last = false ∧ ¬ x = last) (h : best = [] ∨ Op.bytesLess x best = true) : (if last < x ∧ (best = [] ∨ x < best) then x else best) = x := by
  rw [if_pos]
  refine ⟨bgt.2 h1, ?_⟩
  rcases h with h | h
  · exact .inl h
  · rw [bless] at h; exact .inr (of_decide_eq_true h)
theorem best_no1 {last x best : List UInt8} (h1 : ¬ (Op.bytesLess x last = false ∧ ¬ x = last)) : (if last < x ∧ (best = [] ∨ x < best) then x else best) = best := by
  rw [if_neg]
  exact fun h => h1 (bgt.1 h.1)
theorem best_no2 {last x best : List UInt8} (h2 : ¬ best = []) (h3 : Op.bytesLess x best = false) : (if last < x ∧ (best = [] ∨ x < best) then x else best) = best := by
  rw [if_neg]
  rintro ⟨-, h | h⟩
  · exact h2 h
  · rw [bless] at h3; exact of_decide_eq_false h3 h
theorem bestP_spec (last : List UInt8) : ∀ (xs : List (List UInt8)) (best : List UInt8), (best ≠ [] → last < best) →
    (bestP last best xs = [] → best = [] ∧ ∀ x ∈ xs, ¬ last < x) ∧ (bestP last best xs ≠ [] → last < bestP last best xs ∧ (bestP last best xs = best ∨ bestP last best xs ∈ xs) ∧ (best ≠ [] → ¬ best < bestP last best xs) ∧ ∀ x ∈ xs, last < x → ¬ x < bestP last best xs)
  | [], best, hb => by
    refine ⟨fun h => ⟨h, by simp⟩, fun h => ⟨hb h, .inl rfl, fun _ => List.lt_irrefl _, by simp⟩⟩
  | x :: xs, best, hb => by
    unfold bestP
    by_cases hc : last < x ∧ (best = [] ∨ x < best)
    · rw [if_pos hc]
      have ih := bestP_spec last xs x (fun _ => hc.1)
      have hx : x ≠ [] := by rintro rfl; exact List.not_lt_nil _ hc.1
      refine ⟨fun h => absurd (ih.1 h).1 hx, fun h => ?_⟩
      obtain ⟨h1, h2, h3, h4⟩ := ih.2 h
      refine ⟨h1, ?_, ?_, ?_⟩
      · rcases h2 with h2 | h2
        · right; rw [h2]; exact List.mem_cons_self
        · right; exact List.mem_cons_of_mem _ h2
      · intro hbn hlt
        rcases hc.2 with h | h
        · exact hbn h
        · exact h3 hx (List.lt_trans h hlt)
      · intro y hy hly
        rcases List.mem_cons.1 hy with rfl | hy
        · exact h3 hx
        · exact h4 y hy hly
    · rw [if_neg hc]
      have ih := bestP_spec last xs best hb
      refine ⟨fun h => ?_, fun h => ?_⟩
      · obtain ⟨h1, h2⟩ := ih.1 h
        refine ⟨h1, fun y hy hl => ?_⟩
        rcases List.mem_cons.1 hy with rfl | hy
        · exact hc ⟨hl, .inl h1⟩
        · exact h2 y hy hl
      · obtain ⟨h1, h2, h3, h4⟩ := ih.2 h
        refine ⟨h1, ?_, h3, ?_⟩
        · rcases h2 with h2 | h2
          · exact .inl h2
          · right; exact List.mem_cons_of_mem _ h2
        · intro y hy hly
          rcases List.mem_cons.1 hy with rfl | hy
          · intro hlt
            by_cases hbn : best = []
            · exact hc ⟨hly, .inl hbn⟩
            · refine hc ⟨hly, .inr ?_⟩
              rcases le_lt (h3 hbn) with h | h
              · exact List.lt_trans hlt h
              · rw [← h]; exact hlt
          · exact h4 y hy hly
theorem cntP_lt {last b : List UInt8} (hl : last < b) : ∀ {xs : List (List UInt8)}, b ∈ xs → cntP b xs < cntP last xs := by
  have hle : ∀ xs : List (List UInt8), cntP b xs ≤ cntP last xs := by
    intro xs
    unfold cntP
    exact List.countP_mono_left (fun x _ h => by simp at h ⊢; exact List.lt_trans hl h)
  intro xs hm
  induction xs with
  | nil => simp at hm
  | cons x xs ih =>
    have h1 := hle xs
    unfold cntP at ih h1 ⊢
    rw [List.countP_cons, List.countP_cons]
    rcases List.mem_cons.1 hm with rfl | hm
    · rw [if_neg (by simp [List.lt_irrefl]), if_pos (by simpa using hl)]; omega
    · have := ih hm
      by_cases h : b < x
      · rw [if_pos (by simpa using h), if_pos (by simpa using List.lt_trans hl h)]; omega
      · rw [if_neg (by simpa using h)]; split <;> omega
theorem OrdOf.start (xs : List (List UInt8)) : OrdOf xs [] [] := ⟨List.Pairwise.nil, by simp, fun x _ h h' => by
  cases x with
  | nil => exact absurd rfl h
  | cons a x => exact absurd (List.nil_lt_cons _ _) h'⟩
theorem OrdOf.add {xs out : List (List UInt8)} {last b : List UInt8} (h : OrdOf xs last out) (hb : b = bestP last [] xs) (hne : b ≠ []) : OrdOf xs b (out ++ [b]) ∧ cntP b xs < cntP last xs := by
  obtain ⟨h1, h2, -, h4⟩ := (bestP_spec last xs [] (fun h => absurd rfl h)).2 (by rw [← hb]; exact hne)
  rw [← hb] at h1 h2 h4
  have hm : b ∈ xs := by
    rcases h2 with h2 | h2
    · exact absurd h2 hne
    · exact h2
  refine ⟨⟨?_, ?_, ?_⟩, cntP_lt h1 hm⟩
  · rw [List.pairwise_append]
    refine ⟨h.sorted, by simp, ?_⟩
    intro x hx y hy
    simp at hy; subst hy
    have h3 := (h.inn x hx).2.2
    rcases le_lt h3 with h5 | h5
    · exact List.lt_trans h5 h1
    · rw [h5]; exact h1
  · intro x hx
    rcases List.mem_append.1 hx with hx | hx
    · have h3 := h.inn x hx
      exact ⟨h3.1, h3.2.1, fun hlt => h3.2.2 (List.lt_trans h1 hlt)⟩
    · simp at hx; subst hx
      exact ⟨hm, hne, List.lt_irrefl _⟩
  · intro x hx hxn hlt
    by_cases hl : last < x
    · have h5 := h4 x hx hl
      have : x = b := List.le_antisymm (List.not_lt.1 hlt) (List.not_lt.1 h5)
      subst this
      simp
    · exact List.mem_append_left _ (h.all x hx hxn hl)
theorem OrdOf.stop {xs out : List (List UInt8)} {last : List UInt8} (h : OrdOf xs last out) (hb : bestP last [] xs = []) : out.Pairwise (· < ·) ∧ ∀ x, x ∈ out ↔ x ∈ xs ∧ x ≠ [] := by
  obtain ⟨-, h2⟩ := (bestP_spec last xs [] (fun h => absurd rfl h)).1 hb
  exact ⟨h.sorted, fun x => ⟨fun hx => ⟨(h.inn x hx).1, (h.inn x hx).2.1⟩, fun hx => h.all x hx.1 hx.2 (h2 x hx.1)⟩⟩
set_option maxRecDepth 100000 in
set_option maxHeartbeats 1600000 in
theorem rOrdered_any {B : Nat} {w : World} {v : Value} {xs : List (List UInt8)} (h : w.ownsRow B 9 1 v xs.length (xs.map strV)) (hl : xs.length ≤ 1000) :
    Calls Tryz.prog 115 #[v] w fun e w' => ∃ (v' : Value) (out : List (List UInt8)), e = .returned v' ∧ (out.Pairwise (· < ·) ∧ ∀ x, x ∈ out ↔ x ∈ xs ∧ x ≠ []) ∧ w'.ownsRow w.heap.size 9 1 v' out.length (out.map strV) ∧ Below w.heap.size w w' := by
  obtain ⟨a, c, rfl⟩ := owned_shape h
  have H : Hid (w.ownsRow B 9 1 (.slice a xs.length c) xs.length (xs.map strV)) := h
  have hz : (xs.length : Int) ≤ 1000 := by omega
  clear h
  go_enter Tryz.func115, Tryz.ntmps115
  go_wp2_with fail
  go_loopg [3, 4] xs.length (fun g v lv wr => ∃ (out : List (List UInt8)) (last : List UInt8), lv = strV last ∧ out.length + g ≤ xs.length ∧ cntP last xs ≤ g ∧ OrdOf xs last out ∧ wr.ownsRow w.heap.size 9 1 v out.length (out.map strV) ∧ Below w.heap.size w wr)
  case atStart => exact ⟨[], [], rfl, by simp, List.countP_le_length, OrdOf.start xs, World.ownsRow_nil _ _ _ _, Below.refl _ _⟩
  case round =>
    obtain ⟨out, last, rfl, hg, hcn, hoo, hown, hb⟩ := hrel
    obtain ⟨wo, hwo⟩ : ∃ wo, wo = wr := ⟨_, rfl⟩
    subst hwo
    obtain ⟨ao, co, rfl⟩ := owned_shape hown
    have HO : Hid (wo.ownsRow w.heap.size 9 1 (.slice ao out.length co) out.length (out.map strV) ∧ Below w.heap.size w wo ∧ OrdOf xs last out ∧ cntP last xs ≤ gk) := ⟨hown, hb, hoo, hcn⟩
    clear hown hb hoo hcn
    go_wp2_with fail
    obtain ⟨gm, hgm⟩ : ∃ gm, gm = gk := ⟨_, rfl⟩
    subst hgm
    go_loopg [5, 6] xs.length (fun g bv iv wr => ∃ (best : List UInt8) (n : Nat), bv = strV best ∧ iv = .int .i64 n ∧ n + g = xs.length ∧ bestP last best (xs.drop n) = bestP last [] xs ∧ wr = wo)
    case atStart => exact ⟨[], 0, rfl, rfl, by omega, rfl, rfl⟩
    case round =>
      obtain ⟨best, n, rfl, rfl, hn, hbe, rfl⟩ := hrel
      by_cases hi : n < xs.length
      · obtain ⟨x, hx⟩ : ∃ x, xs[n]? = some x := ⟨_, List.getElem?_eq_getElem hi⟩
        have ho := H.out
        obtain ⟨g, rfl, hc1, hc2⟩ := own_some ho (by omega)
        have e0 : wr.cell? ⟨g, n, none⟩ = some (strV x) := by
          have := str_at ho hx
          rw [HO.out.2.1.cell (p := ⟨g, n, none⟩) (World.block_lt_of_cell? _ _ this)]
          exact this
        obtain ⟨m, rfl⟩ : ∃ m, gk = m + 1 := ⟨gk - 1, by omega⟩
        rw [drop_at hx, bestP] at hbe
        have HBE : Hid (bestP last (if last < x ∧ (best = [] ∨ x < best) then x else best) (xs.drop (n + 1)) = bestP last [] xs) := hbe
        clear hbe ho
        go_wp2_with fail
        · rename_i h1 h2 h3
          go_roundg m
          case measure => omega
          case rel => exact ⟨_, n + 1, rfl, by go_num, by omega, by rw [← HBE.out, best_yes h1 (.inl h2)], rfl⟩
        · rename_i h1 h2 h3
          exact absurd (by simpa using h3) h1.2
        · rename_i h1 h2 h3
          have h4 : Op.bytesLess x best = true := by
            rcases h3.2 with h | h
            · exact absurd (List.isEmpty_iff.1 h) h2
            · exact h
          go_roundg m
          case measure => omega
          case rel => exact ⟨_, n + 1, rfl, by go_num, by omega, by rw [← HBE.out, best_yes h1 (.inr h4)], rfl⟩
        · rename_i h1 h2 h3
          have h4 : Op.bytesLess x best = false := by
            rcases h3 with h | h
            · exact absurd (by simpa using h) h1.2
            · exact h.2
          go_roundg m
          case measure => omega
          case rel => exact ⟨_, n + 1, rfl, by go_num, by omega, by rw [← HBE.out, best_no2 h2 h4], rfl⟩
        · rename_i h1
          go_roundg m
          case measure => omega
          case rel => exact ⟨_, n + 1, rfl, by go_num, by omega, by rw [← HBE.out, best_no1 h1], rfl⟩
      · have hbe' : best = bestP last [] xs := by rw [← hbe, List.drop_eq_nil_of_le (by omega)]; rfl
        have HBE : Hid (best = bestP last [] xs) := hbe'
        have hnl : n = xs.length := by omega
        clear hbe hbe'
        subst hnl
        by_cases hbn : best = []
        · have HBN : Hid (bestP last [] xs = []) := (by rw [← HBE.out]; exact hbn : bestP last [] xs = [])
          subst hbn
          go_wp2_with fail
          go_ret
          exact ⟨_, out, rfl, HO.out.2.2.1.stop HBN.out, HO.out.1, HO.out.2.1⟩
        · have HBN : Hid (best ≠ []) := hbn
          have hbe2 : (best == []) = false := beq_eq_false_iff_ne.2 hbn
          have hol : out.length ≤ 1000 := by omega
          have hwr : w.heap.size ≤ wr.heap.size := HO.out.2.1.size
          obtain ⟨i0, hi, hz0, hz1, hz2⟩ := info_parts Tryz.infoStr
          go_wp2_with (at_builtin; refine wpList_append_lies _ rfl (.tmp 38) (.tmp 40) 22 rfl w.heap.size 9 i0 _ 1 16 Tryz.underlying22 hi hz0 hz1 hz2 rfl (by decide) (.slice ao out.length co) out.length _ (by simp [Act.eval, Act.put]) (HO.out.1.alloc _) ⟨wr.heap.size, 0, none⟩ 1 1 [strV best] (by simp [Act.eval, Act.put]) rfl (by exact news_l (by simp)) (by intro u hu; simp at hu; subst hu; rfl) (by decide) (by unfold maxLen; omega) (by omega) (by simp; omega) _ rfl ?_; intro g' cap w5 hown hgrow hat hlt5)
          have b5 : Below w.heap.size w w5 := (HO.out.2.1.alloc hwr _).grown hgrow (by simp; omega) (fun k hk => (HO.out.1.lt k hk).1)
          obtain ⟨hadd, hcl⟩ := HO.out.2.2.1.add HBE.out HBN.out
          have hc2 := HO.out.2.2.2
          go_roundg (gm - 1)
          case measure => omega
          case rel => exact ⟨out ++ [best], best, rfl, by simp; omega, by omega, hadd, by simpa using hown, b5⟩
end Go.Proofs.YtjmcokcdaddpcaaGreatDoor
set_option linter.unusedVariables false
set_option linter.unusedSimpArgs false
namespace Go.Proofs.YtjmcokcdaddpcaaGreatDoor
open Go.RowKit
abbrev evA (x : Dsr.Ev) (v : Value) : Value := .agg #[strV x.name, v, .bool x.done, .bool x.inn, .bool x.due]
theorem joinC_snoc : ∀ (l : List (List UInt8)) (x : List UInt8), Dsr.joinC (l ++ [x]) = if l = [] then x else Dsr.joinC l ++ ([44, 32] ++ x)
  | [], x => by simp [Dsr.joinC, List.intercalate, List.intersperse]
  | [a], x => by simp [Dsr.joinC, List.intercalate, List.intersperse]
  | a :: b :: l, x => by
    have ih := joinC_snoc (b :: l) x
    simp only [List.cons_append, reduceCtorEq, if_false] at ih ⊢
    unfold Dsr.joinC at ih ⊢
    simp only [List.intercalate, List.intersperse_cons_cons, List.flatten_cons] at ih ⊢
    rw [ih]
    simp [List.append_assoc]
theorem app2 (a b : List UInt8) : (⟨a.toArray⟩ ++ ⟨b.toArray⟩ : ByteArray) = ⟨(a ++ b).toArray⟩ := by
  apply ByteArray.ext; simp
theorem str3g (a b e : List UInt8) : Value.string (⟨a.toArray⟩ ++ ⟨b.toArray⟩ ++ ⟨e.toArray⟩ : ByteArray) = strV (a ++ b ++ e) := by rw [app2, app2]
theorem strApp (a b : List UInt8) : Value.string (⟨a.toArray⟩ ++ ⟨b.toArray⟩ : ByteArray) = strV (a ++ b) := by rw [app2]
theorem ev5_cells {w : World} {n : Nat} {T : TypeId} {a b c d e : Value} (h : w.heap[n]? = some (.cells #[a, b, c, d, e] T (0, 0))) : w.cell? ⟨n, 0, none⟩ = some a ∧ w.cell? ⟨n, 1, none⟩ = some b ∧ w.cell? ⟨n, 2, none⟩ = some c ∧ w.cell? ⟨n, 3, none⟩ = some d ∧ w.cell? ⟨n, 4, none⟩ = some e := by
  refine ⟨?_, ?_, ?_, ?_, ?_⟩ <;> simp [World.cell?, h]
def evHead (nm : List UInt8) : List UInt8 := [101, 118, 101, 110, 116, 32] ++ nm ++ [32, 98, 121, 32]
theorem pair_len {out rl : List (List UInt8)} (h : out.Pairwise (· < ·)) (hm : ∀ r ∈ out, r ∈ rl) : out.length ≤ rl.length := by
  induction out generalizing rl with
  | nil => simp
  | cons a out ih =>
    obtain ⟨h1, h2⟩ := List.pairwise_cons.1 h
    have ha : a ∈ rl := hm a (by simp)
    obtain ⟨p, q, rfl⟩ := List.append_of_mem ha
    have := ih (rl := p ++ q) h2 (fun r hr => by
      have hne : r ≠ a := by rintro rfl; exact List.lt_irrefl _ (h1 r hr)
      have := hm r (List.mem_cons_of_mem _ hr)
      simp at this ⊢
      rcases this with h | h | h
      · exact .inl h
      · exact absurd h hne
      · exact .inr h)
    simp at this ⊢
    omega
set_option maxRecDepth 100000 in
set_option maxHeartbeats 1600000 in
theorem rwritten_any {B : Nat} {w : World} {v : Value} (x : Dsr.Ev) (h : w.ownsRow B 9 1 v x.roles.length (x.roles.map strV)) (hl : x.roles.length ≤ 1000) (hn : x.name.length ≤ 1000) (hr : ∀ r ∈ x.roles, r.length ≤ 1000) :
    Calls Tryz.prog 117 #[evA x v] w fun e w' => ∃ out : List (List UInt8), e = .returned (strV (Dsr.evLine { x with roles := out })) ∧ (out.Pairwise (· < ·) ∧ ∀ r, r ∈ out ↔ r ∈ x.roles ∧ r ≠ []) ∧ out.length ≤ 1000 ∧ Below w.heap.size w w' := by
  obtain ⟨nm, rl, dn, inn, du⟩ := x
  have H : Hid (w.ownsRow B 9 1 v rl.length (rl.map strV)) := h
  have hz : (nm.length : Int) ≤ 1000 := by have : nm.length ≤ 1000 := hn; omega
  have hl : rl.length ≤ 1000 := hl
  have HR : Hid (∀ r ∈ rl, r.length ≤ 1000) := hr
  clear h hn hr
  go_enter Tryz.func117, Tryz.ntmps117
  go_wp2_with fail
  refine (rOrdered_any (H.out.alloc _) hl).mono ?_
  rintro e w1 ⟨v', out, rfl, ho, hown, hb⟩
  have hol : out.length ≤ 1000 := Nat.le_trans (pair_len ho.1 (fun r hr => ((ho.2 r).1 hr).1)) hl
  have hor : ∀ r ∈ out, r.length ≤ 1000 := fun r hr => HR.out r ((ho.2 r).1 hr).1
  have q1 : w1.heap[w.heap.size]? = some (.cells #[strV nm, v, .bool dn, .bool inn, .bool du] 226 (0, 0)) := (hb.block _ (by simp)).trans (heap_alloc_new _ _)
  obtain ⟨z0, z1, z2, z3, z4⟩ := ev5_cells q1
  have HB1 : Hid (Below w.heap.size w w1) := (below_alloc1 _).trans (hb.mono (by simp))
  obtain ⟨a, c, rfl⟩ := owned_shape hown
  have HO : Hid ((out.Pairwise (· < ·) ∧ ∀ r, r ∈ out ↔ r ∈ rl ∧ r ≠ []) ∧ w1.ownsRow (w.alloc (.cells #[strV nm, v, .bool dn, .bool inn, .bool du] 226)).heap.size 9 1 (.slice a out.length c) out.length (out.map strV) ∧ ∀ r ∈ out, r.length ≤ 1000) := ⟨ho, hown, hor⟩
  clear ho hown hb q1 hor
  have holI : (out.length : Int) ≤ 1000 := by omega
  go_wp2_with fail
  go_loopg [3, 5] out.length (fun g sv iv wr => ∃ (q : List UInt8) (n : Nat), sv = strV q ∧ iv = .int .i64 n ∧ n + g = out.length ∧ q = evHead nm ++ Dsr.joinC (out.take n) ∧ q.length ≤ 1010 + n * 1002 ∧ wr = w1)
  case atStart => exact ⟨evHead nm, 0, str3g [101, 118, 101, 110, 116, 32] nm [32, 98, 121, 32], rfl, by omega, by simp [Dsr.joinC], by simp [evHead]; omega, rfl⟩
  case round =>
    obtain ⟨q, n, rfl, rfl, hn, hq, hql, rfl⟩ := hrel
    have hqI : (q.length : Int) ≤ 1003010 := by omega
    by_cases hi : n < out.length
    · obtain ⟨x, hx⟩ : ∃ x, out[n]? = some x := ⟨_, List.getElem?_eq_getElem hi⟩
      have ho := HO.out.2.1
      obtain ⟨g, rfl, hc1, hc2⟩ := own_some ho (by omega)
      have e0 : wr.cell? ⟨g, n, none⟩ = some (strV x) := str_at ho hx
      obtain ⟨m, rfl⟩ : ∃ m, gk = m + 1 := ⟨gk - 1, by omega⟩
      have hxl : x.length ≤ 1000 := HO.out.2.2 x (List.mem_of_getElem? hx)
      have hxI : (x.length : Int) ≤ 1000 := by omega
      have HQ : Hid (q = evHead nm ++ Dsr.joinC (out.take n) ∧ out[n]? = some x) := ⟨hq, hx⟩
      clear hq hx ho
      by_cases hn0 : n = 0
      · subst hn0
        go_wp2_with fail
        go_roundg m
        case measure => omega
        case rel => exact ⟨q ++ x, 1, by rw [← strApp], by go_num, by omega, by rw [HQ.out.1, take_at HQ.out.2, joinC_snoc, if_pos (by simp)]; simp [Dsr.joinC], by simp; omega, rfl⟩
      · have hn1 : (0 : Int) < (n : Int) := by omega
        go_wp2_with fail
        go_roundg m
        case measure => omega
        case rel => exact ⟨q ++ ([44, 32] ++ x), n + 1, by rw [← List.append_assoc, ← strApp, ← app2], by go_num, by omega, by rw [HQ.out.1, take_at HQ.out.2, joinC_snoc, if_neg (by intro h; have := congrArg List.length h; rw [List.length_take, List.length_nil] at this; omega)]; simp [List.append_assoc], by simp; omega, rfl⟩
    · have hnl : n = out.length := by omega
      subst hnl
      have HQ : Hid (q = evHead nm ++ Dsr.joinC out) := (by rw [hq, List.take_length] : q = evHead nm ++ Dsr.joinC out)
      clear hq
      rcases inn with _ | _ <;> rcases du with _ | _ <;> rcases dn with _ | _
      all_goals
        go_wp2_with fail
        go_ret
        refine ⟨out, ?_, HO.out.1, hol, HB1.out⟩
        rw [HQ.out]
        simp [Dsr.evLine, evHead, ByteArray.mk_append_mk]
end Go.Proofs.YtjmcokcdaddpcaaGreatDoor
