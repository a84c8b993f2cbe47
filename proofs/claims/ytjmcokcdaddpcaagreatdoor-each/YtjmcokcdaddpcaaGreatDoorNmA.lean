import Derived.Test.YtjmcokcdaddpcaaGreatDoorRdI
import Derived.Test.YtjmcokcdaddpcaaGreatDoorUa
set_option linter.unusedVariables false
set_option linter.unusedSimpArgs false
namespace Go.Proofs.YtjmcokcdaddpcaaGreatDoor
open Go.RowKit
abbrev usV (u : Dsr.Us) : Value := .agg #[.int .u8 u.as_, .int .i64 u.event, strV u.name, .int .i64 u.at_]
/-- The uses lie in a row: the first n of a slice. -/
def UsIn (w : World) (g : Nat) (us : List Dsr.Us) : Prop := ∃ cur, w.heap[g]? = some (.cells cur 199 (0, 0)) ∧ cur.toList.take (us.length * 4) = us.flatMap usC
theorem UsIn.lt {w : World} {g : Nat} {us : List Dsr.Us} (h : UsIn w g us) : g < w.heap.size := by
  obtain ⟨cur, h1, _⟩ := h
  exact (Array.getElem?_eq_some_iff.1 h1).1
theorem UsIn.below {w w' : World} {g : Nat} {us : List Dsr.Us} (h : UsIn w g us) (hb : Below w.heap.size w w') : UsIn w' g us := by
  have hl := h.lt
  obtain ⟨cur, h1, h2⟩ := h
  exact ⟨cur, by rw [hb.block g hl]; exact h1, h2⟩
theorem UsIn.take {w : World} {g : Nat} {us : List Dsr.Us} (h : UsIn w g us) (n : Nat) (hn : n ≤ us.length) : UsIn w g (us.take n) := by
  obtain ⟨cur, h1, h2⟩ := h
  refine ⟨cur, h1, ?_⟩
  have e : us = us.take n ++ us.drop n := (List.take_append_drop n us).symm
  have hl : ((us.take n).flatMap usC).length = n * 4 := by
    rw [Dsr.flatLen usC 4 (fun _ => rfl)]; simp; omega
  have e2 : us.flatMap usC = (us.take n).flatMap usC ++ (us.drop n).flatMap usC := by rw [← List.flatMap_append, List.take_append_drop]
  have hlen : (us.take n).length = n := by simp; omega
  have e3 : (cur.toList.take (us.length * 4)).take (n * 4) = cur.toList.take (n * 4) := by rw [List.take_take, Nat.min_eq_left (by omega)]
  rw [hlen, ← e3, h2, e2, List.take_left' hl]
theorem us_cells {w : World} {g : Nat} {us : List Dsr.Us} (h : UsIn w g us) {k : Nat} {u : Dsr.Us} (hk : us[k]? = some u) :
    w.cell? ⟨g, k * 4, none⟩ = some (.int .u8 u.as_) ∧ w.cell? ⟨g, k * 4 + 1, none⟩ = some (.int .i64 u.event) ∧ w.cell? ⟨g, k * 4 + 2, none⟩ = some (strV u.name) ∧ w.cell? ⟨g, k * 4 + 3, none⟩ = some (.int .i64 u.at_) := by
  obtain ⟨cur, h1, h2⟩ := h
  have hkl : k < us.length := (List.getElem?_eq_some_iff.1 hk).1
  have key : ∀ j, j < 4 → w.cell? ⟨g, k * 4 + j, none⟩ = (usC u)[j]? := by
    intro j hj
    have e := Dsr.flat4 usC (fun a => rfl) us k u j hk hj
    rw [← h2, List.getElem?_take, if_pos (by omega)] at e
    rw [cell_of_row w g _ cur _ _ h1, ← e]
    simp
  exact ⟨key 0 (by omega), key 1 (by omega), key 2 (by omega), key 3 (by omega)⟩
set_option maxRecDepth 100000 in
set_option maxHeartbeats 1600000 in
theorem defines1_any {W : World} {B : Nat} {nm : List UInt8} (u : Dsr.Us) (hB : B < W.heap.size) (hc : W.cell? ⟨B, 0, none⟩ = some (strV nm)) :
    Calls Tryz.prog 185 #[usV u, ptr B] W fun x w' => x = .returned (.bool (Dsr.isDef nm u)) ∧ Below W.heap.size W w' := by
  by_cases h0 : u.as_ = 0
  · have hb : ((u.as_ : Int) == 0) = true := by simp [h0]
    have H0 : Hid (u.as_ = 0) := h0
    clear h0
    go_enter Tryz.func185, Tryz.ntmps185
    go_wp2_with fail
    go_ret
    exact ⟨ret_bool (by simp [Dsr.isDef, H0.out]), (Below.refl _ _).alloc (Nat.le_refl _) _⟩
  · have hb : ((u.as_ : Int) == 0) = false := by simp; omega
    have H0 : Hid (¬ u.as_ = 0) := h0
    clear h0
    go_enter Tryz.func185, Tryz.ntmps185
    go_wp2_with fail
    go_ret
    exact ⟨ret_bool (by simp [Dsr.isDef, H0.out]), (Below.refl _ _).alloc (Nat.le_refl _) _⟩
set_option maxRecDepth 100000 in
set_option maxHeartbeats 1600000 in
theorem hasRole1_any {W : World} {B E : Nat} {nm : List UInt8} {ev : Nat} (u : Dsr.Us) (hE : E < W.heap.size) (he : W.cell? ⟨E, 0, none⟩ = some (.int .i64 ev)) (hB : B < W.heap.size) (hc : W.cell? ⟨B, 0, none⟩ = some (strV nm)) :
    Calls Tryz.prog 186 #[usV u, ptr E, ptr B] W fun x w' => x = .returned (.bool (Dsr.isRole ev nm u)) ∧ Below W.heap.size W w' := by
  by_cases h0 : u.as_ = 1
  · have hb : ((u.as_ : Int) == 1) = true := by simp [h0]
    have H0 : Hid (u.as_ = 1) := h0
    clear h0
    by_cases h1 : u.event = ev
    · have hb1 : ((u.event : Int) == (ev : Int)) = true := by simp [h1]
      have H1 : Hid (u.event = ev) := h1
      clear h1
      go_enter Tryz.func186, Tryz.ntmps186
      go_wp2_with fail
      go_ret
      exact ⟨ret_bool (by simp [Dsr.isRole, H0.out, H1.out]), (Below.refl _ _).alloc (Nat.le_refl _) _⟩
    · have hb1 : ((u.event : Int) == (ev : Int)) = false := by simp; omega
      have H1 : Hid (¬ u.event = ev) := h1
      clear h1
      go_enter Tryz.func186, Tryz.ntmps186
      go_wp2_with fail
      go_ret
      exact ⟨ret_bool (by simp [Dsr.isRole, H0.out, H1.out]), (Below.refl _ _).alloc (Nat.le_refl _) _⟩
  · have hb : ((u.as_ : Int) == 1) = false := by simp; omega
    have H0 : Hid (¬ u.as_ = 1) := h0
    clear h0
    go_enter Tryz.func186, Tryz.ntmps186
    go_wp2_with fail
    go_ret
    exact ⟨ret_bool (by simp [Dsr.isRole, H0.out]), (Below.refl _ _).alloc (Nat.le_refl _) _⟩
theorem any_snoc {α : Type} (p : α → Bool) (us : List α) (n : Nat) (u : α) (h : us[n]? = some u) : (us.take (n + 1)).any p = ((us.take n).any p || p u) := by
  have hn : n < us.length := (List.getElem?_eq_some_iff.1 h).1
  rw [List.take_succ_eq_append_getElem hn, List.any_append]
  have : us[n] = u := (List.getElem?_eq_some_iff.1 h).2
  simp [this]
theorem any_here {α : Type} (p : α → Bool) (us : List α) (n : Nat) (u : α) (h : us[n]? = some u) (hp : p u = true) : us.any p = true :=
  List.any_eq_true.2 ⟨u, List.mem_of_getElem? h, hp⟩
set_option maxRecDepth 100000 in
set_option maxHeartbeats 1600000 in
theorem index_def {w : World} {g c : Nat} {us : List Dsr.Us} (h : UsIn w g us) (hl : us.length ≤ 1000) {N : Nat} {nm : List UInt8} (hN : N < w.heap.size) (hc : w.cell? ⟨N, 0, none⟩ = some (strV nm)) :
    Calls Tryz.prog 228 #[.slice (some ⟨g, 0, none⟩) us.length c, .func (.func 185) #[] #[ptr N]] w fun x w' => (∃ i : Int, x = .returned (.int .i64 i) ∧ decide (0 ≤ i) = us.any (Dsr.isDef nm)) ∧ Below w.heap.size w w' := by
  have H : Hid (UsIn w g us) := h
  have hz : (us.length : Int) ≤ 1000 := by omega
  have hg : g < w.heap.size := h.lt
  clear h
  go_enter Tryz.func228, Tryz.ntmps228
  go_wp2_with fail
  go_loopg [8] us.length (fun k i wr => ∃ n : Nat, i = .int .i64 n ∧ n + k = us.length ∧ (us.take n).any (Dsr.isDef nm) = false ∧ Below w.heap.size w wr)
  case atStart => exact ⟨0, rfl, by omega, rfl, Below.refl _ _⟩
  case round =>
    obtain ⟨n, rfl, hn, ha, hb⟩ := hrel
    by_cases hlt : n < us.length
    · obtain ⟨u, hu⟩ : ∃ u, us[n]? = some u := ⟨_, List.getElem?_eq_getElem hlt⟩
      obtain ⟨d0, d1, d2, d3⟩ := us_cells (H.out.below hb) hu
      have HH : Hid (us[n]? = some u ∧ (us.take n).any (Dsr.isDef nm) = false ∧ Below w.heap.size w wr) := ⟨hu, ha, hb⟩
      have hzr := hb.size
      clear hu ha hb
      rcases hp : (Dsr.isDef nm) u with _ | _
      · have HP : Hid ((Dsr.isDef nm) u = false) := hp
        clear hp
        go_wp2_with fail
        refine (defines1_any u (Nat.lt_of_lt_of_le hN hzr) ((HH.out.2.2.cell (p := ⟨N, 0, none⟩) hN).trans hc)).mono ?_
        rintro e w1 ⟨rfl, hb1⟩
        rw [HP.out]
        have HB : Hid (Below w.heap.size w w1) := HH.out.2.2.trans (hb1.mono hzr)
        clear hb1
        go_wp2_with fail
        go_roundg (us.length - (n + 1))
        case measure => omega
        case rel => exact ⟨n + 1, by go_num, by omega, by rw [any_snoc _ _ _ _ HH.out.1, HH.out.2.1, HP.out]; rfl, HB.out⟩
      · have HP : Hid ((Dsr.isDef nm) u = true) := hp
        clear hp
        go_wp2_with fail
        refine (defines1_any u (Nat.lt_of_lt_of_le hN hzr) ((HH.out.2.2.cell (p := ⟨N, 0, none⟩) hN).trans hc)).mono ?_
        rintro e w1 ⟨rfl, hb1⟩
        rw [HP.out]
        have HB : Hid (Below w.heap.size w w1) := HH.out.2.2.trans (hb1.mono hzr)
        clear hb1
        go_wp2_with fail
        go_ret
        exact ⟨⟨n, rfl, by rw [any_here _ _ _ _ HH.out.1 HP.out]; simp⟩, HB.out⟩
    · have HH : Hid ((us.take n).any (Dsr.isDef nm) = false ∧ Below w.heap.size w wr) := ⟨ha, hb⟩
      clear ha hb
      go_wp2_with fail
      go_ret
      exact ⟨⟨-1, rfl, by have e := HH.out.1; rw [List.take_of_length_le (by omega)] at e; rw [e]; rfl⟩, HH.out.2⟩
set_option maxRecDepth 100000 in
set_option maxHeartbeats 1600000 in
theorem contains_def {w : World} {g c : Nat} {us : List Dsr.Us} (h : UsIn w g us) (hl : us.length ≤ 1000) {N : Nat} {nm : List UInt8} (hN : N < w.heap.size) (hc : w.cell? ⟨N, 0, none⟩ = some (strV nm)) :
    Calls Tryz.prog 184 #[.slice (some ⟨g, 0, none⟩) us.length c, .func (.func 185) #[] #[ptr N]] w fun x w' => x = .returned (.bool (us.any (Dsr.isDef nm))) ∧ Below w.heap.size w w' := by
  go_enter Tryz.func184, Tryz.ntmps184
  go_wp2_with fail
  refine (index_def h hl hN hc).mono ?_
  rintro e w1 ⟨⟨i, rfl, hi⟩, hb⟩
  have HI : Hid (decide (0 ≤ i) = us.any (Dsr.isDef nm)) := hi
  clear hi
  go_wp2_with fail
  go_ret
  exact ⟨ret_bool HI.out, hb⟩
set_option maxRecDepth 100000 in
set_option maxHeartbeats 1600000 in
theorem index_role {w : World} {g c : Nat} {us : List Dsr.Us} (h : UsIn w g us) (hl : us.length ≤ 1000) {N E : Nat} {nm : List UInt8} {ev : Nat} (hE : E < w.heap.size) (he : w.cell? ⟨E, 0, none⟩ = some (.int .i64 ev)) (hN : N < w.heap.size) (hc : w.cell? ⟨N, 0, none⟩ = some (strV nm)) :
    Calls Tryz.prog 228 #[.slice (some ⟨g, 0, none⟩) us.length c, .func (.func 186) #[] #[ptr E, ptr N]] w fun x w' => (∃ i : Int, x = .returned (.int .i64 i) ∧ decide (0 ≤ i) = us.any (Dsr.isRole ev nm)) ∧ Below w.heap.size w w' := by
  have H : Hid (UsIn w g us) := h
  have hz : (us.length : Int) ≤ 1000 := by omega
  have hg : g < w.heap.size := h.lt
  clear h
  go_enter Tryz.func228, Tryz.ntmps228
  go_wp2_with fail
  go_loopg [8] us.length (fun k i wr => ∃ n : Nat, i = .int .i64 n ∧ n + k = us.length ∧ (us.take n).any (Dsr.isRole ev nm) = false ∧ Below w.heap.size w wr)
  case atStart => exact ⟨0, rfl, by omega, rfl, Below.refl _ _⟩
  case round =>
    obtain ⟨n, rfl, hn, ha, hb⟩ := hrel
    by_cases hlt : n < us.length
    · obtain ⟨u, hu⟩ : ∃ u, us[n]? = some u := ⟨_, List.getElem?_eq_getElem hlt⟩
      obtain ⟨d0, d1, d2, d3⟩ := us_cells (H.out.below hb) hu
      have HH : Hid (us[n]? = some u ∧ (us.take n).any (Dsr.isRole ev nm) = false ∧ Below w.heap.size w wr) := ⟨hu, ha, hb⟩
      have hzr := hb.size
      clear hu ha hb
      rcases hp : (Dsr.isRole ev nm) u with _ | _
      · have HP : Hid ((Dsr.isRole ev nm) u = false) := hp
        clear hp
        go_wp2_with fail
        refine (hasRole1_any u (Nat.lt_of_lt_of_le hE hzr) ((HH.out.2.2.cell (p := ⟨E, 0, none⟩) hE).trans he) (Nat.lt_of_lt_of_le hN hzr) ((HH.out.2.2.cell (p := ⟨N, 0, none⟩) hN).trans hc)).mono ?_
        rintro e w1 ⟨rfl, hb1⟩
        rw [HP.out]
        have HB : Hid (Below w.heap.size w w1) := HH.out.2.2.trans (hb1.mono hzr)
        clear hb1
        go_wp2_with fail
        go_roundg (us.length - (n + 1))
        case measure => omega
        case rel => exact ⟨n + 1, by go_num, by omega, by rw [any_snoc _ _ _ _ HH.out.1, HH.out.2.1, HP.out]; rfl, HB.out⟩
      · have HP : Hid ((Dsr.isRole ev nm) u = true) := hp
        clear hp
        go_wp2_with fail
        refine (hasRole1_any u (Nat.lt_of_lt_of_le hE hzr) ((HH.out.2.2.cell (p := ⟨E, 0, none⟩) hE).trans he) (Nat.lt_of_lt_of_le hN hzr) ((HH.out.2.2.cell (p := ⟨N, 0, none⟩) hN).trans hc)).mono ?_
        rintro e w1 ⟨rfl, hb1⟩
        rw [HP.out]
        have HB : Hid (Below w.heap.size w w1) := HH.out.2.2.trans (hb1.mono hzr)
        clear hb1
        go_wp2_with fail
        go_ret
        exact ⟨⟨n, rfl, by rw [any_here _ _ _ _ HH.out.1 HP.out]; simp⟩, HB.out⟩
    · have HH : Hid ((us.take n).any (Dsr.isRole ev nm) = false ∧ Below w.heap.size w wr) := ⟨ha, hb⟩
      clear ha hb
      go_wp2_with fail
      go_ret
      exact ⟨⟨-1, rfl, by have e := HH.out.1; rw [List.take_of_length_le (by omega)] at e; rw [e]; rfl⟩, HH.out.2⟩
set_option maxRecDepth 100000 in
set_option maxHeartbeats 1600000 in
theorem contains_role {w : World} {g c : Nat} {us : List Dsr.Us} (h : UsIn w g us) (hl : us.length ≤ 1000) {N E : Nat} {nm : List UInt8} {ev : Nat} (hE : E < w.heap.size) (he : w.cell? ⟨E, 0, none⟩ = some (.int .i64 ev)) (hN : N < w.heap.size) (hc : w.cell? ⟨N, 0, none⟩ = some (strV nm)) :
    Calls Tryz.prog 184 #[.slice (some ⟨g, 0, none⟩) us.length c, .func (.func 186) #[] #[ptr E, ptr N]] w fun x w' => x = .returned (.bool (us.any (Dsr.isRole ev nm))) ∧ Below w.heap.size w w' := by
  go_enter Tryz.func184, Tryz.ntmps184
  go_wp2_with fail
  refine (index_role h hl hE he hN hc).mono ?_
  rintro e w1 ⟨⟨i, rfl, hi⟩, hb⟩
  have HI : Hid (decide (0 ≤ i) = us.any (Dsr.isRole ev nm)) := hi
  clear hi
  go_wp2_with fail
  go_ret
  exact ⟨ret_bool HI.out, hb⟩
end Go.Proofs.YtjmcokcdaddpcaaGreatDoor
