import Derived.Test.YtjmcokcdaddpcaaGreatDoorGrK
set_option linter.unusedVariables false
set_option linter.unusedSimpArgs false
namespace Go.Proofs.YtjmcokcdaddpcaaGreatDoor
open Go.RowKit
/-- What the look keeps to, as long as nothing was wrong, after n tokens. -/
structure LInv (l : LK) (n : Nat) : Prop where
  uses : l.uses.length ≤ n
  rules : l.rules.length ≤ n
  events : l.events.length ≤ n
  roles : l.roles ≤ n
  lines : l.lines ≤ n
  event : l.event ≤ n
  rule : l.rule ≤ n
  each : ∀ x ∈ l.events, x.roles.length ≤ n
  want : l.want ≤ 9
  ev : 2 ≤ l.want → l.want ≤ 6 → 0 < l.events.length
  ru : 8 ≤ l.want → 0 < l.rules.length
theorem rnext_any {B b : Nat} {w : World} {l : LK} {s : LS} {n : Nat} (k : Dsr.Tok) (h : LkAt B b w l s) (hi : LInv l n) (hn : n ≤ 1000) (hk : k.text.length ≤ 1000) :
    Calls Tryz.prog 113 #[ptrL b, tkV k] w fun e w' => e = .returned (.tuple #[]) ∧ ∃ s', LNext B b w l s w' (nextP l k) s' := by
  obtain ⟨i1, i2, i3, i4, i5, i6, i7, i8, i9, i10, i11⟩ := hi
  have hw : l.want = 0 ∨ l.want = 1 ∨ l.want = 2 ∨ l.want = 3 ∨ (l.want = 4 ∨ l.want = 5 ∨ l.want = 6) ∨ l.want = 7 ∨ l.want = 8 ∨ l.want = 9 := by omega
  rcases hw with hw | hw | hw | hw | hw | hw | hw | hw
  · exact rnext_0 k h hw (by omega) hk (by omega) (by omega) (by omega) (by omega)
  · exact rnext_1 k h hw (by omega) hk (by omega)
  · exact rnext_2 k h hw
  · exact rnext_3 k h hw (by omega) hk (i10 (by omega) (by omega)) (by omega) (by omega) (fun x hx => Nat.le_trans (i8 x hx) hn)
  · exact rnext_m k h hw (i10 (by omega) (by omega)) (by omega)
  · exact rnext_7 k h hw
  · exact rnext_8 k h hw (i11 (by omega)) (by omega)
  · exact rnext_9 k h hw (by omega) hk (i11 (by omega)) (by omega)
theorem len_modLast {α : Type} (f : α → α) (l : List α) : (modLast f l).length = l.length := by simp [modLast]
theorem mem_modLast {α : Type} {f : α → α} {l : List α} {x : α} (h : x ∈ modLast f l) : x ∈ l ∨ ∃ y ∈ l, x = f y := by
  unfold modLast at h
  obtain ⟨i, hi, he⟩ := List.mem_iff_getElem.1 h
  rw [List.getElem_modify] at he
  split at he
  · right; exact ⟨_, List.getElem_mem _, he.symm⟩
  · left; rw [← he]; exact List.getElem_mem _
/-- What `named` does, if nothing is wrong with it. -/
theorem namedP_ok {l : LK} {k : Dsr.Tok} {room : Bool} {what want : Nat} (h : (namedP l k room what want).e = 0) : namedP l k room what want = { l with uses := l.uses ++ [⟨k, what, l.lines⟩], want := want } ∧ isName k = true ∧ badSize k room = false := by
  unfold namedP at h ⊢
  rcases h1 : isName k with _ | _
  · rw [if_pos h1] at h; simp at h
  · rcases h2 : badSize k room with _ | _
    · rw [if_neg (by simp), if_neg (by simp)]
      exact ⟨rfl, rfl, rfl⟩
    · rw [if_neg (by rw [h1]; decide), if_pos h2] at h; simp at h
theorem LInv.next {l : LK} {n : Nat} (k : Dsr.Tok) (hi : LInv l n) (he : (nextP l k).e = 0) : LInv (nextP l k) (n + 1) := by
  obtain ⟨i1, i2, i3, i4, i5, i6, i7, i8, i9, i10, i11⟩ := hi
  have i8' : ∀ x ∈ l.events, x.roles.length ≤ n + 1 := fun x hx => Nat.le_trans (i8 x hx) (by omega)
  have hw : l.want = 0 ∨ l.want = 1 ∨ l.want = 2 ∨ l.want = 3 ∨ (l.want = 4 ∨ l.want = 5 ∨ l.want = 6) ∨ l.want = 7 ∨ l.want = 8 ∨ l.want = 9 := by omega
  unfold nextP at he ⊢
  rcases hw with hw | hw | hw | hw | hw | hw | hw | hw
  · simp only [hw, if_pos] at he ⊢
    unfold beginP at he ⊢
    split
    · exact ⟨by simp; omega, by simp; omega, by simp; omega, by simp; omega, by simp; omega, by simp; omega, by simp; omega, i8', by simp, by simp, by simp⟩
    · rename_i hE
      rw [if_neg hE] at he
      obtain ⟨e, -, -⟩ := namedP_ok he
      rw [e]
      exact ⟨by simp; omega, by simp; omega, by simp; omega, by simp; omega, by simp; omega, by simp; omega, by simp; omega, i8', by simp, by simp, by simp⟩
  · simp only [hw] at he ⊢
    obtain ⟨e, -, -⟩ := namedP_ok (by simpa using he)
    simp only [e]
    refine ⟨by simp; omega, by simp; omega, by simp; omega, by simp; omega, by simp; omega, by simp; omega, by simp; omega, ?_, by simp, by simp, by simp⟩
    intro x hx
    rcases List.mem_append.1 hx with hx | hx
    · exact i8' x hx
    · simp at hx; subst hx; simp
  · simp only [hw] at he ⊢
    have := i10 (by omega) (by omega)
    exact ⟨by simp; omega, by simp; omega, by simp; omega, by simp, by simp; omega, by simp; omega, by simp; omega, i8', by simp, fun _ _ => this, by simp⟩
  · rw [if_neg (by omega), if_neg (by omega), if_neg (by omega), if_pos hw] at he ⊢
    obtain ⟨e, -, -⟩ := namedP_ok he
    have := i10 (by omega) (by omega)
    rw [e]
    refine ⟨by simp; omega, by simp; omega, by simp [len_modLast]; omega, by simp; omega, by simp; omega, by simp; omega, by simp; omega, ?_, by simp, by simp [len_modLast]; omega, by simp⟩
    intro x hx
    rcases mem_modLast hx with hx | ⟨y, hy, rfl⟩
    · exact i8' x hx
    · have := i8 y hy; simp; omega
  · have hne := i10 (by omega) (by omega)
    rw [if_neg (by omega), if_neg (by omega), if_neg (by omega), if_neg (by omega), if_neg (by omega), if_neg (by omega), if_neg (by omega)] at he ⊢
    have hm : ∀ (f : Dsr.Ev → Dsr.Ev), (∀ x, (f x).roles = x.roles) → ∀ x ∈ modLast f l.events, x.roles.length ≤ n + 1 := by
      intro f hf x hx
      rcases mem_modLast hx with hx | ⟨y, hy, rfl⟩
      · exact i8' x hx
      · rw [hf]; exact i8' y hy
    unfold markP at he ⊢
    split
    · exact ⟨by simp; omega, by simp; omega, by simp; omega, by simp; omega, by simp; omega, by simp; omega, by simp; omega, i8', by simp, fun _ _ => hne, by simp⟩
    · split
      · exact ⟨by simp; omega, by simp; omega, by simp [len_modLast]; omega, by simp; omega, by simp; omega, by simp; omega, by simp; omega, hm _ (fun _ => rfl), by simp, by simp [len_modLast]; omega, by simp⟩
      · split
        · exact ⟨by simp; omega, by simp; omega, by simp [len_modLast]; omega, by simp; omega, by simp; omega, by simp; omega, by simp; omega, hm _ (fun _ => rfl), by simp, by simp [len_modLast]; omega, by simp⟩
        · split
          · exact ⟨by simp; omega, by simp; omega, by simp [len_modLast]; omega, by simp; omega, by simp; omega, by simp; omega, by simp; omega, hm _ (fun _ => rfl), by simp, by simp [len_modLast], by simp⟩
          · split
            · exact ⟨by simp; omega, by simp; omega, by simp; omega, by simp; omega, by simp; omega, by simp; omega, by simp; omega, i8', by simp, by simp, by simp⟩
            · rename_i h1 h2 h3 h4 h5
              rw [if_neg h1, if_neg h2, if_neg h3, if_neg h4, if_neg h5] at he
              simp at he
  · simp only [hw] at he ⊢
    exact ⟨by simp; omega, by simp; omega, by simp; omega, by simp; omega, by simp; omega, by simp; omega, by simp; omega, i8', by simp, by simp, by simp⟩
  · simp only [hw] at he ⊢
    have := i11 (by omega)
    exact ⟨by simp; omega, by simp [len_modLast]; omega, by simp; omega, by simp; omega, by simp; omega, by simp; omega, by simp; omega, i8', by simp, by simp, by simp [len_modLast]; omega⟩
  · simp only [hw] at he ⊢
    obtain ⟨e, -, -⟩ := namedP_ok (by simpa using he)
    have := i11 (by omega)
    simp only [e]
    exact ⟨by simp; omega, by simp [len_modLast]; omega, by simp; omega, by simp; omega, by simp; omega, by simp; omega, by simp; omega, i8', by simp, by simp, by simp⟩
/-- The tokens of a text, gone through. -/
def runP : LK → List Dsr.Tok → LK × Option Nat
  | l, [] => (l, none)
  | l, k :: ks => if k.text = [] ∧ l.want = 0 then (l, none) else if (nextP l k).e ≠ 0 then (nextP l k, some k.at_) else runP (nextP l k) ks
def lk0 : LK := ⟨0, 0, 0, 0, [], [], [], 0, 0⟩
theorem lk0_inv : LInv lk0 0 := ⟨by simp [lk0], by simp [lk0], by simp [lk0], by simp [lk0], by simp [lk0], by simp [lk0], by simp [lk0], by simp [lk0], by simp [lk0], by simp [lk0], by simp [lk0]⟩
end Go.Proofs.YtjmcokcdaddpcaaGreatDoor
set_option linter.unusedVariables false
set_option linter.unusedSimpArgs false
namespace Go.Proofs.YtjmcokcdaddpcaaGreatDoor
open Go.RowKit
theorem LkAt.aside {B b : Nat} {w w' : World} {l : LK} {s : LS} (h : LkAt B b w l s) (hb : Below w.heap.size w w') : LkAt B b w' l s := ((LNext.refl h).aside hb).lk
theorem LkAt.shapes {B b : Nat} {w : World} {l : LK} {s : LS} (h : LkAt B b w l s) : ∃ ae ce ar cr au cu, s.ve = .slice ae l.events.length ce ∧ s.vr = .slice ar l.rules.length cr ∧ s.vu = .slice au l.uses.length cu := by
  obtain ⟨ae, ce, h1⟩ := owned_shape h.own0
  obtain ⟨ar, cr, h2⟩ := owned_shape h.own1
  obtain ⟨au, cu, h3⟩ := owned_shape h.own2
  exact ⟨ae, ce, ar, cr, au, cu, h1, h2, h3⟩
theorem own_some {w : World} {B : Nat} {e : TypeId} {m n c : Nat} {a : Option Addr} {xs : List Value} (h : w.ownsRow B e m (.slice a n c) n xs) (hn : 0 < n) : ∃ g, a = some ⟨g, 0, none⟩ ∧ n ≤ c ∧ c ≤ maxLen := by
  rcases h.2 with ⟨_, h1⟩ | ⟨g, c', cur, h1, _, h2, h3, h4, _⟩
  · omega
  · injection h1 with h1 h5 h6
    subst h6
    exact ⟨g, h1, h3, h4⟩
theorem LkAt.evAt {B b : Nat} {w : World} {l : LK} {s : LS} {ae : Option Addr} {ce : Nat} (h : LkAt B b w l s) (hv : s.ve = .slice ae l.events.length ce) {i : Nat} {x : Dsr.Ev} (hx : l.events[i]? = some x) : ∃ g v, ae = some ⟨g, 0, none⟩ ∧ s.rv[i]? = some v ∧ g < w.heap.size ∧
    w.cell? ⟨g, i * 5, none⟩ = some (strV x.name) ∧ w.cell? ⟨g, i * 5 + 1, none⟩ = some v ∧ w.cell? ⟨g, i * 5 + 2, none⟩ = some (.bool x.done) ∧ w.cell? ⟨g, i * 5 + 3, none⟩ = some (.bool x.inn) ∧ w.cell? ⟨g, i * 5 + 4, none⟩ = some (.bool x.due) ∧ l.events.length ≤ ce ∧ ce ≤ maxLen := by
  have hi : i < l.events.length := (List.getElem?_eq_some_iff.1 hx).1
  have ho := h.own0
  rw [hv] at ho
  obtain ⟨g, rfl, hc, hc2⟩ := own_some ho (by omega)
  obtain ⟨v, hvx⟩ : ∃ v, s.rv[i]? = some v := ⟨_, List.getElem?_eq_getElem (by rw [h.len]; omega)⟩
  have e := fun j hj => evCells_at2 l.events s.rv i x v j hx hvx hj
  have e0 := own_at ho ((e 0 (by omega)).trans rfl)
  exact ⟨g, v, rfl, hvx, World.block_lt_of_cell? _ _ e0, e0, own_at ho ((e 1 (by omega)).trans rfl), own_at ho ((e 2 (by omega)).trans rfl), own_at ho ((e 3 (by omega)).trans rfl), own_at ho ((e 4 (by omega)).trans rfl), hc, hc2⟩
theorem LkAt.ruAt {B b : Nat} {w : World} {l : LK} {s : LS} {ar : Option Addr} {cr : Nat} (h : LkAt B b w l s) (hv : s.vr = .slice ar l.rules.length cr) {i : Nat} {x : RR} (hx : l.rules[i]? = some x) : ∃ g, ar = some ⟨g, 0, none⟩ ∧ g < w.heap.size ∧
    w.cell? ⟨g, i * 3, none⟩ = some (.int .i64 x.sign) ∧ w.cell? ⟨g, i * 3 + 1, none⟩ = some (strV x.left) ∧ w.cell? ⟨g, i * 3 + 2, none⟩ = some (strV x.right) ∧ l.rules.length ≤ cr ∧ cr ≤ maxLen := by
  have hi : i < l.rules.length := (List.getElem?_eq_some_iff.1 hx).1
  have ho := h.own1
  rw [hv] at ho
  obtain ⟨g, rfl, hc, hc2⟩ := own_some ho (by omega)
  have e := fun j hj => flatM2 3 rrC (fun _ => rfl) l.rules i x j hx hj
  have e0 := own_at ho ((e 0 (by omega)).trans rfl)
  exact ⟨g, rfl, World.block_lt_of_cell? _ _ e0, e0, own_at ho ((e 1 (by omega)).trans rfl), own_at ho ((e 2 (by omega)).trans rfl), hc, hc2⟩
theorem LkAt.usAt {B b : Nat} {w : World} {l : LK} {s : LS} {au : Option Addr} {cu : Nat} (h : LkAt B b w l s) (hv : s.vu = .slice au l.uses.length cu) {i : Nat} {x : RU} (hx : l.uses[i]? = some x) : ∃ g, au = some ⟨g, 0, none⟩ ∧ g < w.heap.size ∧
    w.cell? ⟨g, i * 6, none⟩ = some (strV x.tk.text) ∧ w.cell? ⟨g, i * 6 + 1, none⟩ = some (.int .i64 x.tk.at_) ∧ w.cell? ⟨g, i * 6 + 2, none⟩ = some (.bool (isW x.tk)) ∧ w.cell? ⟨g, i * 6 + 3, none⟩ = some (.int .i64 (sgn x.tk)) ∧ w.cell? ⟨g, i * 6 + 4, none⟩ = some (.int .i64 x.what) ∧ w.cell? ⟨g, i * 6 + 5, none⟩ = some (.int .i64 x.line) ∧ l.uses.length ≤ cu ∧ cu ≤ maxLen := by
  have hi : i < l.uses.length := (List.getElem?_eq_some_iff.1 hx).1
  have ho := h.own2
  rw [hv] at ho
  obtain ⟨g, rfl, hc, hc2⟩ := own_some ho (by omega)
  have e := fun j hj => flatM2 6 ruC (fun _ => rfl) l.uses i x j hx hj
  have e0 := own_at ho ((e 0 (by omega)).trans rfl)
  exact ⟨g, rfl, World.block_lt_of_cell? _ _ e0, e0, own_at ho ((e 1 (by omega)).trans rfl), own_at ho ((e 2 (by omega)).trans rfl), own_at ho ((e 3 (by omega)).trans rfl), own_at ho ((e 4 (by omega)).trans rfl), own_at ho ((e 5 (by omega)).trans rfl), hc, hc2⟩
/-- The number of an event. -/
def findI : List Dsr.Ev → List UInt8 → Nat → Int
  | [], _, _ => -1
  | x :: es, t, k => if x.name = t then k else findI es t (k + 1)
abbrev ptrG (b : Nat) : Value := .pointer (some ⟨b, 4, none⟩)
theorem drop_at {α : Type} {l : List α} {k : Nat} {x : α} (h : l[k]? = some x) : l.drop k = x :: l.drop (k + 1) := by
  obtain ⟨hk, e⟩ := List.getElem?_eq_some_iff.1 h
  rw [List.drop_eq_getElem_cons hk, e]
set_option maxRecDepth 100000 in
set_option maxHeartbeats 1600000 in
theorem rFind_any {B b : Nat} {w : World} {l : LK} {s : LS} (t : List UInt8) (h : LkAt B b w l s) (hl : l.events.length ≤ 1000) :
    Calls Tryz.prog 116 #[ptrG b, strV t] w fun e w' => e = .returned (.int .i64 (findI l.events t 0)) ∧ Below w.heap.size w w' := by
  obtain ⟨ae, ce, ar, cr, au, cu, hve, hvr, hvu⟩ := h.shapes
  have HV : Hid (s.ve = .slice ae l.events.length ce) := hve
  have H : Hid (LkAt B b w l s) := h
  have hz : (l.events.length : Int) ≤ 1000 := by omega
  clear h hve hvr hvu
  go_enter Tryz.func116, Tryz.ntmps116
  go_wp2_with fail
  go_loopg [5] l.events.length (fun g i wr => ∃ n : Nat, i = .int .i64 n ∧ n + g = l.events.length ∧ findI (l.events.drop n) t n = findI l.events t 0 ∧ Below w.heap.size w wr)
  case atStart => exact ⟨0, rfl, by omega, rfl, Below.refl _ _⟩
  case round =>
    obtain ⟨n, rfl, hn, ha, hb⟩ := hrel
    have hl1 := H.out.aside hb
    obtain ⟨c0, c1, c2, c3, c4, c5, c6, c7, c8, fz⟩ := hl1.cells
    rw [HV.out] at c4
    have hlt := hl1.lt
    by_cases hi : n < l.events.length
    · obtain ⟨x, hx⟩ : ∃ x, l.events[n]? = some x := ⟨_, List.getElem?_eq_getElem hi⟩
      obtain ⟨ge, v, rfl, hvx, hgl, e0, e1, e2, e3, e4, hc1, hc2⟩ := hl1.evAt HV.out hx
      obtain ⟨m, rfl⟩ : ∃ m, gk = m + 1 := ⟨gk - 1, by omega⟩
      rw [drop_at hx, findI] at ha
      have HH : Hid ((if x.name = t then (n : Int) else findI (l.events.drop (n + 1)) t (n + 1)) = findI l.events t 0 ∧ Below w.heap.size w wr) := ⟨ha, hb⟩
      clear ha hb hl1 hvx c0 c1 c2 c3 c5 c6 c7 c8
      rcases hq : (x.name == t) with _ | _
      · have HQ : Hid (¬ x.name = t) := (beq_eq_false_iff_ne.1 hq : ¬ x.name = t)
        go_wp2_with fail
        go_roundg m
        case measure => omega
        case rel =>
          have e1 := HH.out.1
          rw [if_neg HQ.out] at e1
          exact ⟨n + 1, by go_num, by omega, e1, HH.out.2⟩
      · have HQ : Hid (x.name = t) := (beq_iff_eq.1 hq : x.name = t)
        go_wp2_with fail
        go_ret
        have e1 := HH.out.1
        rw [if_pos HQ.out] at e1
        exact ⟨by rw [← e1]; rfl, HH.out.2⟩
    · have e1 : findI l.events t 0 = -1 := by rw [← ha, List.drop_eq_nil_of_le (by omega)]; rfl
      have HH : Hid (findI l.events t 0 = -1 ∧ Below w.heap.size w wr) := ⟨e1, hb⟩
      have hnl : n = l.events.length := by omega
      clear ha hb hl1 c0 c1 c2 c3 c5 c6 c7 c8 e1
      subst hnl
      go_wp2_with fail
      go_ret
      exact ⟨by rw [HH.out.1]; rfl, HH.out.2⟩
def hasR (rs : List RR) (sg : Int) (a b : List UInt8) : Bool := rs.any fun r => ((r.sign : Int) == sg) && (r.left == a) && (r.right == b)
theorem hasR_at {rs : List RR} {k : Nat} {x : RR} (h : rs[k]? = some x) (sg : Int) (a b : List UInt8) : hasR (rs.drop k) sg a b = ((((x.sign : Int) == sg) && (x.left == a) && (x.right == b)) || hasR (rs.drop (k + 1)) sg a b) := by
  unfold hasR
  rw [drop_at h, List.any_cons]
set_option maxRecDepth 100000 in
set_option maxHeartbeats 1600000 in
theorem rHas_any {B b : Nat} {w : World} {l : LK} {s : LS} (sg : Int) (t u : List UInt8) (h : LkAt B b w l s) (hl : l.rules.length ≤ 1000) :
    Calls Tryz.prog 119 #[ptrG b, .int .i64 sg, strV t, strV u] w fun e w' => e = .returned (.bool (hasR l.rules sg t u)) ∧ Below w.heap.size w w' := by
  obtain ⟨ae, ce, ar, cr, au, cu, hve, hvr, hvu⟩ := h.shapes
  have HV : Hid (s.vr = .slice ar l.rules.length cr) := hvr
  have H : Hid (LkAt B b w l s) := h
  have hz : (l.rules.length : Int) ≤ 1000 := by omega
  clear h hve hvr hvu
  go_enter Tryz.func119, Tryz.ntmps119
  go_wp2_with fail
  go_loopg [9] l.rules.length (fun g i wr => ∃ n : Nat, i = .int .i64 n ∧ n + g = l.rules.length ∧ hasR (l.rules.drop n) sg t u = hasR l.rules sg t u ∧ Below w.heap.size w wr)
  case atStart => exact ⟨0, rfl, by omega, rfl, Below.refl _ _⟩
  case round =>
    obtain ⟨n, rfl, hn, ha, hb⟩ := hrel
    have hl1 := H.out.aside hb
    obtain ⟨c0, c1, c2, c3, c4, c5, c6, c7, c8, fz⟩ := hl1.cells
    rw [HV.out] at c5
    have hlt := hl1.lt
    by_cases hi : n < l.rules.length
    · obtain ⟨x, hx⟩ : ∃ x, l.rules[n]? = some x := ⟨_, List.getElem?_eq_getElem hi⟩
      obtain ⟨ge, rfl, hgl, e0, e1, e2, hc1, hc2⟩ := hl1.ruAt HV.out hx
      obtain ⟨m, rfl⟩ : ∃ m, gk = m + 1 := ⟨gk - 1, by omega⟩
      rw [hasR_at hx] at ha
      have HH : Hid (((((x.sign : Int) == sg) && (x.left == t) && (x.right == u)) || hasR (l.rules.drop (n + 1)) sg t u) = hasR l.rules sg t u ∧ Below w.heap.size w wr) := ⟨ha, hb⟩
      clear ha hb hl1 c0 c1 c2 c3 c4 c6 c7 c8
      by_cases h1 : (x.sign : Int) = sg
      · by_cases h2 : x.left = t
        · by_cases h3 : x.right = u
          · have HF : Hid ((((x.sign : Int) == sg) && (x.left == t) && (x.right == u)) = true) := (by simp [h1, h2, h3] : (((x.sign : Int) == sg) && (x.left == t) && (x.right == u)) = true)
            go_wp2_with fail
            go_ret
            have e1 := HH.out.1
            rw [HF.out, Bool.true_or] at e1
            exact ⟨by rw [← e1]; rfl, HH.out.2⟩
          · have HF : Hid ((((x.sign : Int) == sg) && (x.left == t) && (x.right == u)) = false) := (by simp [h3] : (((x.sign : Int) == sg) && (x.left == t) && (x.right == u)) = false)
            go_wp2_with fail
            go_roundg m
            case measure => omega
            case rel =>
              have e1 := HH.out.1
              rw [HF.out, Bool.false_or] at e1
              exact ⟨n + 1, by go_num, by omega, e1, HH.out.2⟩
        · have HF : Hid ((((x.sign : Int) == sg) && (x.left == t) && (x.right == u)) = false) := (by simp [h2] : (((x.sign : Int) == sg) && (x.left == t) && (x.right == u)) = false)
          go_wp2_with fail
          go_roundg m
          case measure => omega
          case rel =>
            have e1 := HH.out.1
            rw [HF.out, Bool.false_or] at e1
            exact ⟨n + 1, by go_num, by omega, e1, HH.out.2⟩
      · have HF : Hid ((((x.sign : Int) == sg) && (x.left == t) && (x.right == u)) = false) := (by simp [h1] : (((x.sign : Int) == sg) && (x.left == t) && (x.right == u)) = false)
        go_wp2_with fail
        go_roundg m
        case measure => omega
        case rel =>
          have e1 := HH.out.1
          rw [HF.out, Bool.false_or] at e1
          exact ⟨n + 1, by go_num, by omega, e1, HH.out.2⟩
    · have e1 : hasR l.rules sg t u = false := by rw [← ha, List.drop_eq_nil_of_le (by omega)]; rfl
      have HH : Hid (hasR l.rules sg t u = false ∧ Below w.heap.size w wr) := ⟨e1, hb⟩
      have hnl : n = l.rules.length := by omega
      clear ha hb hl1 c0 c1 c2 c3 c4 c6 c7 c8 e1
      subst hnl
      go_wp2_with fail
      go_ret
      exact ⟨by rw [HH.out.1]; rfl, HH.out.2⟩
end Go.Proofs.YtjmcokcdaddpcaaGreatDoor
set_option linter.unusedVariables false
set_option linter.unusedSimpArgs false
namespace Go.Proofs.YtjmcokcdaddpcaaGreatDoor
open Go.RowKit
def clash (u v : RU) : Bool := ((v.what : Int) == (u.what : Int)) && ((v.tk.text == u.tk.text) && (((u.what : Int) == 1) || ((v.line : Int) == (u.line : Int))))
def badU (es : List Dsr.Ev) (pre : List RU) (u : RU) : Bool := (((u.what : Int) == 3) && decide (findI es u.tk.text 0 < 0)) || (decide ((u.what : Int) < 3) && pre.any (clash u))
def wrongR (es : List Dsr.Ev) : List RU → List RU → Option Nat
  | _, [] => none
  | pre, u :: us => if badU es pre u = true then some u.tk.at_ else wrongR es (pre ++ [u]) us
def optI : Option Nat → Int
  | some a => a
  | none => -1
theorem rFind_at {B b : Nat} {w : World} {l : LK} {s : LS} (t : List UInt8) (q : Int) (hq : findI l.events t 0 = q) (h : LkAt B b w l s) (hl : l.events.length ≤ 1000) :
    Calls Tryz.prog 116 #[ptrG b, strV t] w fun e w' => e = .returned (.int .i64 q) ∧ Below w.heap.size w w' := by
  subst hq; exact rFind_any t h hl
theorem take_at {α : Type} {l : List α} {k : Nat} {x : α} (h : l[k]? = some x) : l.take (k + 1) = l.take k ++ [x] := by
  rw [List.take_add_one, h]; rfl
theorem use_cells {w : World} {n : Nat} {a b c d e f : Value} (h : w.heap[n]? = some (.cells #[a, b, c, d, e, f] 271 (0, 0))) : w.cell? ⟨n, 0, none⟩ = some a ∧ w.cell? ⟨n, 1, none⟩ = some b ∧ w.cell? ⟨n, 2, none⟩ = some c ∧ w.cell? ⟨n, 3, none⟩ = some d ∧ w.cell? ⟨n, 4, none⟩ = some e ∧ w.cell? ⟨n, 5, none⟩ = some f := by
  refine ⟨?_, ?_, ?_, ?_, ?_, ?_⟩ <;> simp [World.cell?, h]
theorem any_of {us : List RU} {j n : Nat} {y : RU} {p : RU → Bool} (h : us[j]? = some y) (hj : j < n) (hp : p y = true) : (us.take n).any p = true := by
  rw [List.any_eq_true]
  refine ⟨y, ?_, hp⟩
  apply List.mem_of_getElem? (i := j)
  rw [List.getElem?_take_of_lt hj]
  exact h
set_option maxRecDepth 100000 in
set_option maxHeartbeats 3200000 in
theorem rwrong_any {B b : Nat} {w : World} {l : LK} {s : LS} (h : LkAt B b w l s) (hl : l.events.length ≤ 1000) (hlu : l.uses.length ≤ 1000) :
    Calls Tryz.prog 114 #[ptrG b] w fun e w' => e = .returned (.int .i64 (optI (wrongR l.events [] l.uses))) ∧ Below w.heap.size w w' := by
  obtain ⟨ae, ce, ar, cr, au, cu, hve, hvr, hvu⟩ := h.shapes
  have HV : Hid (s.vu = .slice au l.uses.length cu) := hvu
  have H : Hid (LkAt B b w l s) := h
  have hz : (l.uses.length : Int) ≤ 1000 := by omega
  clear h hve hvr hvu
  go_enter Tryz.func114, Tryz.ntmps114
  go_wp2_with fail
  go_loopg [3] l.uses.length (fun g i wr => ∃ n : Nat, i = .int .i64 n ∧ n + g = l.uses.length ∧ wrongR l.events (l.uses.take n) (l.uses.drop n) = wrongR l.events [] l.uses ∧ Below w.heap.size w wr)
  case atStart => exact ⟨0, rfl, by omega, rfl, Below.refl _ _⟩
  case round =>
    obtain ⟨wo, hwo⟩ : ∃ wo, wo = wr := ⟨_, rfl⟩
    subst hwo
    obtain ⟨n, rfl, hn, ha, hb⟩ := hrel
    have hl1 := H.out.aside hb
    obtain ⟨c0, c1, c2, c3, c4, c5, c6, c7, c8, fz⟩ := hl1.cells
    rw [HV.out] at c6
    have hlt := hl1.lt
    by_cases hi : n < l.uses.length
    · obtain ⟨x, hx⟩ : ∃ x, l.uses[n]? = some x := ⟨_, List.getElem?_eq_getElem hi⟩
      obtain ⟨ge, rfl, hgl, e0, e1, e2, e3, e4, e5, hc1, hc2⟩ := hl1.usAt HV.out hx
      obtain ⟨m, rfl⟩ : ∃ m, gk = m + 1 := ⟨gk - 1, by omega⟩
      rw [drop_at hx, wrongR] at ha
      have HH : Hid ((if badU l.events (l.uses.take n) x = true then some x.tk.at_ else wrongR l.events (l.uses.take n ++ [x]) (l.uses.drop (n + 1))) = wrongR l.events [] l.uses ∧ Below w.heap.size w wo ∧ l.uses[n]? = some x) := ⟨ha, hb, hx⟩
      have HL : Hid (LkAt B b wo l s) := hl1
      clear ha hb hl1 c0 c1 c2 c3 c4 c5 c7 c8 hx
      obtain ⟨q, hq⟩ : ∃ q, findI l.events x.tk.text 0 = q := ⟨_, rfl⟩
      have HF : Hid (findI l.events x.tk.text 0 = q) := hq
      clear hq
      go_wp2_with fail
      refine (rFind_at x.tk.text q HF.out (HL.out.aside (below_alloc1 _)) hl).mono ?_
      rintro e w1 ⟨rfl, b1⟩
      have q1 : w1.heap[wo.heap.size]? = some (.cells #[strV x.tk.text, .int .i64 x.tk.at_, .bool (isW x.tk), .int .i64 (sgn x.tk), .int .i64 x.what, .int .i64 x.line] 271 (0, 0)) := (b1.block _ (by simp)).trans (heap_alloc_new _ _)
      have HB1 : Hid (Below w.heap.size w w1) := HH.out.2.1.trans (((below_alloc1 _).trans (b1.mono (by simp))).mono HH.out.2.1.size)
      have hs1 : wo.heap.size < w1.heap.size := by have := b1.size; simp at this; omega
      have HQ1 : Hid (w1.heap[wo.heap.size]? = some (.cells #[strV x.tk.text, .int .i64 x.tk.at_, .bool (isW x.tk), .int .i64 (sgn x.tk), .int .i64 x.what, .int .i64 x.line] 271 (0, 0))) := q1
      obtain ⟨z0, z1, z2, z3, z4, z5⟩ := use_cells q1
      clear b1 q1 e0 e1 e2 e3 e4 e5
      by_cases hw3 : (x.what : Int) < 3
      · have hw3' : ((x.what : Int) == 3) = false := by simp; omega
        go_wp2_with fail
        have HW3 : Hid ((x.what : Int) < 3) := hw3
        go_loopg [6] n (fun g2 k wq => ∃ j : Nat, k = .int .i64 j ∧ j + g2 = n ∧ (l.uses.take j).any (clash x) = false ∧ Below w.heap.size w wq ∧ wo.heap.size < wq.heap.size ∧ wq.heap[wo.heap.size]? = some (.cells #[strV x.tk.text, .int .i64 x.tk.at_, .bool (isW x.tk), .int .i64 (sgn x.tk), .int .i64 x.what, .int .i64 x.line] 271 (0, 0)))
        case atStart => exact ⟨0, rfl, by omega, rfl, HB1.out, hs1, HQ1.out⟩
        case round =>
          obtain ⟨j, rfl, hj, hany, hb3, hsz, hq3⟩ := hrel
          have hl3 := H.out.aside hb3
          obtain ⟨c0, c1, c2, c3, c4, c5, c6, c7, c8, fz⟩ := hl3.cells
          rw [HV.out] at c6
          have hlt3 := hl3.lt
          clear z0 z1 z2 z3 z4 z5
          obtain ⟨z0, z1, z2, z3, z4, z5⟩ := use_cells hq3
          by_cases hjn : j < n
          · obtain ⟨y, hy⟩ : ∃ y, l.uses[j]? = some y := ⟨_, List.getElem?_eq_getElem (by omega)⟩
            obtain ⟨gf, hgf, hgl3, e0, e1, e2, e3, e4, e5, hd1, hd2⟩ := hl3.usAt HV.out hy
            obtain rfl : ge = gf := by injection hgf with h1; injection h1
            obtain ⟨m2, rfl⟩ : ∃ m2, gk = m2 + 1 := ⟨gk - 1, by omega⟩
            have HJ : Hid ((l.uses.take j).any (clash x) = false ∧ wr.heap[wo.heap.size]? = some (.cells #[strV x.tk.text, .int .i64 x.tk.at_, .bool (isW x.tk), .int .i64 (sgn x.tk), .int .i64 x.what, .int .i64 x.line] 271 (0, 0)) ∧ l.uses[j]? = some y) := ⟨hany, hq3, hy⟩
            have HB3 : Hid (Below w.heap.size w wr) := hb3
            have HN : Hid (j < n) := hjn
            clear hany hb3 hq3 hl3 hy hgf c0 c1 c2 c3 c4 c5 c7 c8
            rcases h1 : ((y.what : Int) == (x.what : Int)) with _ | _
            · have HC : Hid (clash x y = false) := (by unfold clash; rw [h1]; rfl : clash x y = false)
              go_wp2_with fail
              go_roundg m2
              case measure => omega
              case rel =>
                have hs3 := HB3.out.size
                exact ⟨j + 1, by go_num, by omega, by rw [take_at HJ.out.2.2, List.any_append, HJ.out.1, List.any_cons, HC.out]; rfl, HB3.out.trans ((below_alloc1 _).mono hs3), by simp; omega, by rw [Below.heap_alloc _ _ _ hsz]; exact HJ.out.2.1⟩
            · rcases h2 : (y.tk.text == x.tk.text) with _ | _
              · have HC : Hid (clash x y = false) := (by unfold clash; rw [h1, h2]; rfl : clash x y = false)
                go_wp2_with fail
                go_roundg m2
                case measure => omega
                case rel =>
                  have hs3 := HB3.out.size
                  exact ⟨j + 1, by go_num, by omega, by rw [take_at HJ.out.2.2, List.any_append, HJ.out.1, List.any_cons, HC.out]; rfl, HB3.out.trans ((below_alloc1 _).mono hs3), by simp; omega, by rw [Below.heap_alloc _ _ _ hsz]; exact HJ.out.2.1⟩
              · rcases h3 : ((x.what : Int) == 1) with _ | _
                · rcases h4 : ((y.line : Int) == (x.line : Int)) with _ | _
                  · have HC : Hid (clash x y = false) := (by unfold clash; rw [h1, h2, h3, h4]; rfl : clash x y = false)
                    go_wp2_with fail
                    go_roundg m2
                    case measure => omega
                    case rel =>
                      have hs3 := HB3.out.size
                      exact ⟨j + 1, by go_num, by omega, by rw [take_at HJ.out.2.2, List.any_append, HJ.out.1, List.any_cons, HC.out]; rfl, HB3.out.trans ((below_alloc1 _).mono hs3), by simp; omega, by rw [Below.heap_alloc _ _ _ hsz]; exact HJ.out.2.1⟩
                  · have HC : Hid (clash x y = true) := (by unfold clash; rw [h1, h2, h3, h4]; rfl : clash x y = true)
                    go_wp2_with fail
                    go_ret
                    have e1 := HH.out.1
                    have hs3 := HB3.out.size
                    rw [if_pos (by unfold badU; rw [decide_eq_true HW3.out, Bool.true_and, any_of HJ.out.2.2 HN.out HC.out, Bool.or_true])] at e1
                    exact ⟨by rw [← e1]; rfl, HB3.out.trans ((below_alloc1 _).mono hs3)⟩
                · have HC : Hid (clash x y = true) := (by unfold clash; rw [h1, h2, h3]; rfl : clash x y = true)
                  go_wp2_with fail
                  go_ret
                  have e1 := HH.out.1
                  have hs3 := HB3.out.size
                  rw [if_pos (by unfold badU; rw [decide_eq_true HW3.out, Bool.true_and, any_of HJ.out.2.2 HN.out HC.out, Bool.or_true])] at e1
                  exact ⟨by rw [← e1]; rfl, HB3.out.trans ((below_alloc1 _).mono hs3)⟩
          · have hjn' : j = n := by omega
            subst hjn'
            have HJ : Hid ((l.uses.take j).any (clash x) = false ∧ Below w.heap.size w wr) := ⟨hany, hb3⟩
            clear hany hb3 hl3 hq3 c0 c1 c2 c3 c4 c5 c7 c8
            go_wp2_with fail
            go_roundg m
            case measure => omega
            case rel =>
              have e1 := HH.out.1
              rw [if_neg (by unfold badU; rw [hw3', HJ.out.1, Bool.and_false, Bool.false_and]; decide)] at e1
              exact ⟨j + 1, by go_num, by omega, by rw [take_at HH.out.2.2]; exact e1, HJ.out.2⟩
      · have hw3d : decide ((x.what : Int) < 3) = false := decide_eq_false hw3
        rcases h3 : ((x.what : Int) == 3) with _ | _
        · have HX : Hid (badU l.events (l.uses.take n) x = false) := (by unfold badU; rw [h3, hw3d]; rfl : badU l.events (l.uses.take n) x = false)
          clear hw3d
          go_wp2_with fail
          go_loopg [6] 0 (fun g2 k wq => k = .int .i64 (0 : Nat) ∧ wq = w1)
          case atStart => exact ⟨rfl, rfl⟩
          case round =>
            obtain ⟨rfl, rfl⟩ := hrel
            by_cases hn0 : (0 : Int) < (n : Int)
            · go_wp2_with fail
              go_roundg m
              case measure => omega
              case rel =>
                have e1 := HH.out.1
                rw [if_neg (by rw [HX.out]; decide)] at e1
                exact ⟨n + 1, by go_num, by omega, by rw [take_at HH.out.2.2]; exact e1, HB1.out⟩
            · go_wp2_with fail
              go_roundg m
              case measure => omega
              case rel =>
                have e1 := HH.out.1
                rw [if_neg (by rw [HX.out]; decide)] at e1
                exact ⟨n + 1, by go_num, by omega, by rw [take_at HH.out.2.2]; exact e1, HB1.out⟩
        · by_cases hqn : q < 0
          · have HX : Hid (badU l.events (l.uses.take n) x = true) := (by unfold badU; rw [h3, HF.out, decide_eq_true hqn]; rfl : badU l.events (l.uses.take n) x = true)
            clear hw3d
            go_wp2_with fail
            go_ret
            have e1 := HH.out.1
            rw [if_pos HX.out] at e1
            exact ⟨by rw [← e1]; rfl, HB1.out⟩
          · have HX : Hid (badU l.events (l.uses.take n) x = false) := (by unfold badU; rw [h3, HF.out, decide_eq_false hqn, hw3d]; rfl : badU l.events (l.uses.take n) x = false)
            clear hw3d
            go_wp2_with fail
            go_loopg [6] 0 (fun g2 k wq => k = .int .i64 (0 : Nat) ∧ wq = w1)
            case atStart => exact ⟨rfl, rfl⟩
            case round =>
              obtain ⟨rfl, rfl⟩ := hrel
              by_cases hn0 : (0 : Int) < (n : Int)
              · go_wp2_with fail
                go_roundg m
                case measure => omega
                case rel =>
                  have e1 := HH.out.1
                  rw [if_neg (by rw [HX.out]; decide)] at e1
                  exact ⟨n + 1, by go_num, by omega, by rw [take_at HH.out.2.2]; exact e1, HB1.out⟩
              · go_wp2_with fail
                go_roundg m
                case measure => omega
                case rel =>
                  have e1 := HH.out.1
                  rw [if_neg (by rw [HX.out]; decide)] at e1
                  exact ⟨n + 1, by go_num, by omega, by rw [take_at HH.out.2.2]; exact e1, HB1.out⟩
    · have e1 : wrongR l.events [] l.uses = none := by rw [← ha, List.drop_eq_nil_of_le (by omega)]; rfl
      have HH : Hid (wrongR l.events [] l.uses = none ∧ Below w.heap.size w wo) := ⟨e1, hb⟩
      have hnl : n = l.uses.length := by omega
      clear ha hb hl1 c0 c1 c2 c3 c4 c5 c7 c8 e1
      subst hnl
      go_wp2_with fail
      go_ret
      exact ⟨by rw [HH.out.1]; rfl, HH.out.2⟩
end Go.Proofs.YtjmcokcdaddpcaaGreatDoor
