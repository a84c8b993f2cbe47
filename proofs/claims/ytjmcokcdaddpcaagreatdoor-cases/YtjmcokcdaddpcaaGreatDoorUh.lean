import Derived.Test.YtjmcokcdaddpcaaGreatDoorUg
import Derived.Laws.Cover1
import Derived.Test.YtjmcokcdaddpcaaGreatDoorUa
set_option linter.unusedVariables false
set_option linter.unusedSimpArgs false
namespace Go.Proofs.YtjmcokcdaddpcaaGreatDoor
open Go.RowKit
theorem str_at {w : World} {B g c n : Nat} {xs : List (List UInt8)} (h : w.ownsRow B 9 1 (.slice (some ⟨g, 0, none⟩) n c) n (xs.map strV)) {i : Nat} {x : List UInt8} (hx : xs[i]? = some x) : w.cell? ⟨g, i, none⟩ = some (strV x) := own_at h (by rw [List.getElem?_map, hx]; rfl)
def bestP (last : List UInt8) : List UInt8 → List (List UInt8) → List UInt8
  | best, [] => best
  | best, x :: xs => bestP last (if last < x ∧ (best = [] ∨ x < best) then x else best) xs
def cntP (last : List UInt8) (xs : List (List UInt8)) : Nat := xs.countP fun x => decide (last < x)
structure OrdOf (xs : List (List UInt8)) (last : List UInt8) (out : List (List UInt8)) : Prop where
  sorted : out.Pairwise (· < ·)
  inn : ∀ x ∈ out, x ∈ xs ∧ x ≠ [] ∧ ¬ last < x
  all : ∀ x ∈ xs, x ≠ [] → ¬ last < x → x ∈ out
theorem bless : ∀ (x y : List UInt8), Op.bytesLess x y = decide (x < y)
  | [], [] => by simp [Op.bytesLess]
  | _ :: _, [] => by simp [Op.bytesLess]
  | [], _ :: _ => by simp [Op.bytesLess]
  | a :: x, b :: y => by
    rw [Op.bytesLess, bless x y]
    simp only [List.cons_lt_cons_iff]
    by_cases h1 : a < b <;> by_cases h2 : a = b <;> by_cases h3 : x < y <;> simp [h1, h2, h3]
theorem le_lt {a b : List UInt8} (h : ¬ b < a) : a < b ∨ a = b := by
  by_cases h2 : a < b
  · exact .inl h2
  · exact .inr (List.le_antisymm (List.not_lt.1 h) (List.not_lt.1 h2))
theorem bgt {x y : List UInt8} : y < x ↔ (Op.bytesLess x y = false ∧ ¬ x = y) := by
  rw [bless, decide_eq_false_iff_not]
  constructor
  · intro h
    exact ⟨List.lt_asymm h, fun e => by subst e; exact List.lt_irrefl _ h⟩
  · rintro ⟨h1, h2⟩
    rcases le_lt h1 with h | h
    · exact h
    · exact absurd h.symm h2
theorem best_yes {last x best : List UInt8} (h1 : Op.bytesLess x last = false ∧ ¬ x = last) (h : best = [] ∨ Op.bytesLess x best = true) : (if last < x ∧ (best = [] ∨ x < best) then x else best) = x := by
  rw [if_pos]
  refine ⟨bgt.2 h1, ?_⟩
  rcases h with h | h
  · exact .inl h
  · rw [bless] at h; exact .inr (of_decide_eq_true h)
theorem best_no1 {last x best : List UInt8} (h1 : ¬ (Op.bytesLess x last = false ∧ ¬ x = last)) : (if last < x ∧ (best = [] ∨ x < best) then x else best) = best := by
  rw [if_neg]
  exact fun h => h1 (bgt.1 h.1)
theorem best_no2 {last x best : List UInt8} (h2 : ¬ best = []) (h3 : Op.bytesLess x best = false) : (if last < x ∧ (best = [] ∨ x < best) then x else best) = best := by
  rw [if_neg]
  rintro ⟨-, h | h⟩
  · exact h2 h
  · rw [bless] at h3; exact of_decide_eq_false h3 h
theorem bestP_spec (last : List UInt8) : ∀ (xs : List (List UInt8)) (best : List UInt8), (best ≠ [] → last < best) →
    (bestP last best xs = [] → best = [] ∧ ∀ x ∈ xs, ¬ last < x) ∧ (bestP last best xs ≠ [] → last < bestP last best xs ∧ (bestP last best xs = best ∨ bestP last best xs ∈ xs) ∧ (best ≠ [] → ¬ best < bestP last best xs) ∧ ∀ x ∈ xs, last < x → ¬ x < bestP last best xs)
  | [], best, hb => by
    refine ⟨fun h => ⟨h, by simp⟩, fun h => ⟨hb h, .inl rfl, fun _ => List.lt_irrefl _, by simp⟩⟩
  | x :: xs, best, hb => by
    unfold bestP
    by_cases hc : last < x ∧ (best = [] ∨ x < best)
    · rw [if_pos hc]
      have ih := bestP_spec last xs x (fun _ => hc.1)
      have hx : x ≠ [] := by rintro rfl; exact List.not_lt_nil _ hc.1
      refine ⟨fun h => absurd (ih.1 h).1 hx, fun h => ?_⟩
      obtain ⟨h1, h2, h3, h4⟩ := ih.2 h
      refine ⟨h1, ?_, ?_, ?_⟩
      · rcases h2 with h2 | h2
        · right; rw [h2]; exact List.mem_cons_self
        · right; exact List.mem_cons_of_mem _ h2
      · intro hbn hlt
        rcases hc.2 with h | h
        · exact hbn h
        · exact h3 hx (List.lt_trans h hlt)
      · intro y hy hly
        rcases List.mem_cons.1 hy with rfl | hy
        · exact h3 hx
        · exact h4 y hy hly
    · rw [if_neg hc]
      have ih := bestP_spec last xs best hb
      refine ⟨fun h => ?_, fun h => ?_⟩
      · obtain ⟨h1, h2⟩ := ih.1 h
        refine ⟨h1, fun y hy hl => ?_⟩
        rcases List.mem_cons.1 hy with rfl | hy
        · exact hc ⟨hl, .inl h1⟩
        · exact h2 y hy hl
      · obtain ⟨h1, h2, h3, h4⟩ := ih.2 h
        refine ⟨h1, ?_, h3, ?_⟩
        · rcases h2 with h2 | h2
          · exact .inl h2
          · right; exact List.mem_cons_of_mem _ h2
        · intro y hy hly
          rcases List.mem_cons.1 hy with rfl | hy
          · intro hlt
            by_cases hbn : best = []
            · exact hc ⟨hly, .inl hbn⟩
            · refine hc ⟨hly, .inr ?_⟩
              rcases le_lt (h3 hbn) with h | h
              · exact List.lt_trans hlt h
              · rw [← h]; exact hlt
          · exact h4 y hy hly
theorem cntP_lt {last b : List UInt8} (hl : last < b) : ∀ {xs : List (List UInt8)}, b ∈ xs → cntP b xs < cntP last xs := by
  have hle : ∀ xs : List (List UInt8), cntP b xs ≤ cntP last xs := by
    intro xs
    unfold cntP
    exact List.countP_mono_left (fun x _ h => by simp at h ⊢; exact List.lt_trans hl h)
  intro xs hm
  induction xs with
  | nil => simp at hm
  | cons x xs ih =>
    have h1 := hle xs
    unfold cntP at ih h1 ⊢
    rw [List.countP_cons, List.countP_cons]
    rcases List.mem_cons.1 hm with rfl | hm
    · rw [if_neg (by simp [List.lt_irrefl]), if_pos (by simpa using hl)]; omega
    · have := ih hm
      by_cases h : b < x
      · rw [if_pos (by simpa using h), if_pos (by simpa using List.lt_trans hl h)]; omega
      · rw [if_neg (by simpa using h)]; split <;> omega
theorem OrdOf.start (xs : List (List UInt8)) : OrdOf xs [] [] := ⟨List.Pairwise.nil, by simp, fun x _ h h' => by
  cases x with
  | nil => exact absurd rfl h
  | cons a x => exact absurd (List.nil_lt_cons _ _) h'⟩
theorem OrdOf.add {xs out : List (List UInt8)} {last b : List UInt8} (h : OrdOf xs last out) (hb : b = bestP last [] xs) (hne : b ≠ []) : OrdOf xs b (out ++ [b]) ∧ cntP b xs < cntP last xs := by
  obtain ⟨h1, h2, -, h4⟩ := (bestP_spec last xs [] (fun h => absurd rfl h)).2 (by rw [← hb]; exact hne)
  rw [← hb] at h1 h2 h4
  have hm : b ∈ xs := by
    rcases h2 with h2 | h2
    · exact absurd h2 hne
    · exact h2
  refine ⟨⟨?_, ?_, ?_⟩, cntP_lt h1 hm⟩
  · rw [List.pairwise_append]
    refine ⟨h.sorted, by simp, ?_⟩
    intro x hx y hy
    simp at hy; subst hy
    have h3 := (h.inn x hx).2.2
    rcases le_lt h3 with h5 | h5
    · exact List.lt_trans h5 h1
    · rw [h5]; exact h1
  · intro x hx
    rcases List.mem_append.1 hx with hx | hx
    · have h3 := h.inn x hx
      exact ⟨h3.1, h3.2.1, fun hlt => h3.2.2 (List.lt_trans h1 hlt)⟩
    · simp at hx; subst hx
      exact ⟨hm, hne, List.lt_irrefl _⟩
  · intro x hx hxn hlt
    by_cases hl : last < x
    · have h5 := h4 x hx hl
      have : x = b := List.le_antisymm (List.not_lt.1 hlt) (List.not_lt.1 h5)
      subst this
      simp
    · exact List.mem_append_left _ (h.all x hx hxn hl)
theorem OrdOf.stop {xs out : List (List UInt8)} {last : List UInt8} (h : OrdOf xs last out) (hb : bestP last [] xs = []) : out.Pairwise (· < ·) ∧ ∀ x, x ∈ out ↔ x ∈ xs ∧ x ≠ [] := by
  obtain ⟨-, h2⟩ := (bestP_spec last xs [] (fun h => absurd rfl h)).1 hb
  exact ⟨h.sorted, fun x => ⟨fun hx => ⟨(h.inn x hx).1, (h.inn x hx).2.1⟩, fun hx => h.all x hx.1 hx.2 (h2 x hx.1)⟩⟩
set_option maxRecDepth 100000 in
set_option maxHeartbeats 1600000 in
theorem rOrdered_any {B : Nat} {w : World} {v : Value} {xs : List (List UInt8)} (h : w.ownsRow B 9 1 v xs.length (xs.map strV)) (hl : xs.length ≤ 1000) :
    Calls Tryz.prog 115 #[v] w fun e w' => ∃ (v' : Value) (out : List (List UInt8)), e = .returned v' ∧ (out.Pairwise (· < ·) ∧ ∀ x, x ∈ out ↔ x ∈ xs ∧ x ≠ []) ∧ w'.ownsRow w.heap.size 9 1 v' out.length (out.map strV) ∧ Below w.heap.size w w' := by
  obtain ⟨a, c, rfl⟩ := owned_shape h
  have H : Hid (w.ownsRow B 9 1 (.slice a xs.length c) xs.length (xs.map strV)) := h
  have hz : (xs.length : Int) ≤ 1000 := by omega
  clear h
  go_enter Tryz.func115, Tryz.ntmps115
  go_wp2_with fail
  go_loopg [3, 4] xs.length (fun g v lv wr => ∃ (out : List (List UInt8)) (last : List UInt8), lv = strV last ∧ out.length + g ≤ xs.length ∧ cntP last xs ≤ g ∧ OrdOf xs last out ∧ wr.ownsRow w.heap.size 9 1 v out.length (out.map strV) ∧ Below w.heap.size w wr)
  case atStart => exact ⟨[], [], rfl, by simp, List.countP_le_length, OrdOf.start xs, World.ownsRow_nil _ _ _ _, Below.refl _ _⟩
  case round =>
    obtain ⟨out, last, rfl, hg, hcn, hoo, hown, hb⟩ := hrel
    obtain ⟨wo, hwo⟩ : ∃ wo, wo = wr := ⟨_, rfl⟩
    subst hwo
    obtain ⟨ao, co, rfl⟩ := owned_shape hown
    have HO : Hid (wo.ownsRow w.heap.size 9 1 (.slice ao out.length co) out.length (out.map strV) ∧ Below w.heap.size w wo ∧ OrdOf xs last out ∧ cntP last xs ≤ gk) := ⟨hown, hb, hoo, hcn⟩
    clear hown hb hoo hcn
    go_wp2_with fail
    obtain ⟨gm, hgm⟩ : ∃ gm, gm = gk := ⟨_, rfl⟩
    subst hgm
    go_loopg [5, 6] xs.length (fun g bv iv wr => ∃ (best : List UInt8) (n : Nat), bv = strV best ∧ iv = .int .i64 n ∧ n + g = xs.length ∧ bestP last best (xs.drop n) = bestP last [] xs ∧ wr = wo)
    case atStart => exact ⟨[], 0, rfl, rfl, by omega, rfl, rfl⟩
    case round =>
      obtain ⟨best, n, rfl, rfl, hn, hbe, rfl⟩ := hrel
      by_cases hi : n < xs.length
      · obtain ⟨x, hx⟩ : ∃ x, xs[n]? = some x := ⟨_, List.getElem?_eq_getElem hi⟩
        have ho := H.out
        obtain ⟨g, rfl, hc1, hc2⟩ := own_some ho (by omega)
        have e0 : wr.cell? ⟨g, n, none⟩ = some (strV x) := by
          have := str_at ho hx
          rw [HO.out.2.1.cell (p := ⟨g, n, none⟩) (World.block_lt_of_cell? _ _ this)]
          exact this
        obtain ⟨m, rfl⟩ : ∃ m, gk = m + 1 := ⟨gk - 1, by omega⟩
        rw [drop_at hx, bestP] at hbe
        have HBE : Hid (bestP last (if last < x ∧ (best = [] ∨ x < best) then x else best) (xs.drop (n + 1)) = bestP last [] xs) := hbe
        clear hbe ho
        go_wp2_with fail
        · rename_i h1 h2 h3
          go_roundg m
          case measure => omega
          case rel => exact ⟨_, n + 1, rfl, by go_num, by omega, by rw [← HBE.out, best_yes h1 (.inl h2)], rfl⟩
        · rename_i h1 h2 h3
          exact absurd (by simpa using h3) h1.2
        · rename_i h1 h2 h3
          have h4 : Op.bytesLess x best = true := by
            rcases h3.2 with h | h
            · exact absurd (List.isEmpty_iff.1 h) h2
            · exact h
          go_roundg m
          case measure => omega
          case rel => exact ⟨_, n + 1, rfl, by go_num, by omega, by rw [← HBE.out, best_yes h1 (.inr h4)], rfl⟩
        · rename_i h1 h2 h3
          have h4 : Op.bytesLess x best = false := by
            rcases h3 with h | h
            · exact absurd (by simpa using h) h1.2
            · exact h.2
          go_roundg m
          case measure => omega
          case rel => exact ⟨_, n + 1, rfl, by go_num, by omega, by rw [← HBE.out, best_no2 h2 h4], rfl⟩
        · rename_i h1
          go_roundg m
          case measure => omega
          case rel => exact ⟨_, n + 1, rfl, by go_num, by omega, by rw [← HBE.out, best_no1 h1], rfl⟩
      · have hbe' : best = bestP last [] xs := by rw [← hbe, List.drop_eq_nil_of_le (by omega)]; rfl
        have HBE : Hid (best = bestP last [] xs) := hbe'
        have hnl : n = xs.length := by omega
        clear hbe hbe'
        subst hnl
        by_cases hbn : best = []
        · have HBN : Hid (bestP last [] xs = []) := (by rw [← HBE.out]; exact hbn : bestP last [] xs = [])
          subst hbn
          go_wp2_with fail
          go_ret
          exact ⟨_, out, rfl, HO.out.2.2.1.stop HBN.out, HO.out.1, HO.out.2.1⟩
        · have HBN : Hid (best ≠ []) := hbn
          have hbe2 : (best == []) = false := beq_eq_false_iff_ne.2 hbn
          have hol : out.length ≤ 1000 := by omega
          have hwr : w.heap.size ≤ wr.heap.size := HO.out.2.1.size
          obtain ⟨i0, hi, hz0, hz1, hz2⟩ := info_parts Tryz.infoStr
          go_wp2_with (at_builtin; refine wpList_append_lies _ rfl (.tmp 38) (.tmp 40) 22 rfl w.heap.size 9 i0 _ 1 16 Tryz.underlying22 hi hz0 hz1 hz2 rfl (by decide) (.slice ao out.length co) out.length _ (by simp [Act.eval, Act.put]) (HO.out.1.alloc _) ⟨wr.heap.size, 0, none⟩ 1 1 [strV best] (by simp [Act.eval, Act.put]) rfl (by exact news_l (by simp)) (by intro u hu; simp at hu; subst hu; rfl) (by decide) (by unfold maxLen; omega) (by omega) (by simp; omega) _ rfl ?_; intro g' cap w5 hown hgrow hat hlt5)
          have b5 : Below w.heap.size w w5 := (HO.out.2.1.alloc hwr _).grown hgrow (by simp; omega) (fun k hk => (HO.out.1.lt k hk).1)
          obtain ⟨hadd, hcl⟩ := HO.out.2.2.1.add HBE.out HBN.out
          have hc2 := HO.out.2.2.2
          go_roundg (gm - 1)
          case measure => omega
          case rel => exact ⟨out ++ [best], best, rfl, by simp; omega, by omega, hadd, by simpa using hown, b5⟩
end Go.Proofs.YtjmcokcdaddpcaaGreatDoor
set_option linter.unusedVariables false
set_option linter.unusedSimpArgs false
namespace Go.Proofs.YtjmcokcdaddpcaaGreatDoor
open Go.RowKit
/-- The cells of a mark. -/
def mkC (e : Dsr.Ev) : List Value := [.bool e.done, .bool e.inn, .bool e.due]
/-- The events as they stand, in the order of the text. -/
structure MkOf (l : LK) (evs : List Dsr.Ev) : Prop where
  nm : evs.map (·.name) = l.events.map (·.name)
  ro : evs.map (·.roles) = l.events.map (·.roles)
theorem MkOf.len {l : LK} {evs : List Dsr.Ev} (h : MkOf l evs) : evs.length = l.events.length := by
  have := congrArg List.length h.nm
  simpa using this
theorem MkOf.at {l : LK} {evs : List Dsr.Ev} (h : MkOf l evs) {i : Nat} {x : Dsr.Ev} (hx : evs[i]? = some x) : ∃ e, l.events[i]? = some e ∧ e.name = x.name ∧ e.roles = x.roles := by
  have hi : i < l.events.length := by rw [← h.len]; exact (List.getElem?_eq_some_iff.1 hx).1
  refine ⟨_, List.getElem?_eq_getElem hi, ?_, ?_⟩
  · have := congrArg (fun q => q[i]?) h.nm
    simp only [List.getElem?_map, hx, List.getElem?_eq_getElem hi, Option.map_some] at this
    exact (Option.some.inj this).symm
  · have := congrArg (fun q => q[i]?) h.ro
    simp only [List.getElem?_map, hx, List.getElem?_eq_getElem hi, Option.map_some] at this
    exact (Option.some.inj this).symm
theorem MkOf.refl (l : LK) : MkOf l l.events := ⟨rfl, rfl⟩
theorem mk_at {w : World} {B g c n : Nat} {evs : List Dsr.Ev} (h : w.ownsRow B 48 3 (.slice (some ⟨g, 0, none⟩) n c) n (evs.flatMap mkC)) {i : Nat} {x : Dsr.Ev} (hx : evs[i]? = some x) :
    w.cell? ⟨g, i * 3, none⟩ = some (.bool x.done) ∧ w.cell? ⟨g, i * 3 + 1, none⟩ = some (.bool x.inn) ∧ w.cell? ⟨g, i * 3 + 2, none⟩ = some (.bool x.due) ∧ g < w.heap.size := by
  have e := fun j hj => flatM2 3 mkC (fun _ => rfl) evs i x j hx hj
  have e0 := own_at h ((e 0 (by omega)).trans rfl)
  exact ⟨e0, own_at h ((e 1 (by omega)).trans rfl), own_at h ((e 2 (by omega)).trans rfl), World.block_lt_of_cell? _ _ e0⟩
/-- How an event stands behind another one. -/
def doneQ (rs : List RR) (n : List UInt8) (e : Dsr.Ev) : Dsr.Ev :=
  { e with done := e.done || (e.name == n), inn := hasR rs 4 n e.name || (e.inn && !hasR rs 5 n e.name), due := (e.due && !(e.name == n)) || hasR rs 3 n e.name }
theorem MkOf.done {l : LK} {evs : List Dsr.Ev} (h : MkOf l evs) (rs : List RR) (n : List UInt8) : MkOf l (evs.map (doneQ rs n)) := by
  refine ⟨?_, ?_⟩
  · rw [List.map_map, ← h.nm]; exact List.map_congr_left fun _ _ => rfl
  · rw [List.map_map, ← h.ro]; exact List.map_congr_left fun _ _ => rfl
theorem info_mark : (Tryz.prog.info? 48).map (fun i => (i.zero, i.size, i.bytes)) = some (some (.agg #[.bool false, .bool false, .bool false]), 3, 3) := by kernel_rfl
theorem one_mk (e : Dsr.Ev) : ∀ v ∈ mkC e, v.oneCell' = true := by
  intro v hv; simp [mkC] at hv; rcases hv with rfl | rfl | rfl <;> rfl
theorem cells3M {w : World} {b : Nat} {c0 c1 c2 : Value} {T : TypeId} (h : w.heap[b]? = some (.cells #[c0, c1, c2] T (0, 0))) :
    w.cell? ⟨b, 0, none⟩ = some c0 ∧ w.cell? ⟨b, 1, none⟩ = some c1 ∧ w.cell? ⟨b, 2, none⟩ = some c2 ∧ ∀ o, w.frozen? ⟨b, o, none⟩ = false := by
  refine ⟨?_, ?_, ?_, fun o => ?_⟩ <;> simp [World.cell?, World.frozen?, h]
theorem cells2R {w : World} {b : Nat} {c0 c1 : Value} {T : TypeId} (h : w.heap[b]? = some (.cells #[c0, c1] T (0, 0))) :
    w.cell? ⟨b, 0, none⟩ = some c0 ∧ w.cell? ⟨b, 1, none⟩ = some c1 ∧ ∀ o, w.frozen? ⟨b, o, none⟩ = false := by
  refine ⟨?_, ?_, fun o => ?_⟩ <;> simp [World.cell?, World.frozen?, h]
theorem after_marks {wr w3 : World} {N n m : Nat} {T : TypeId} {o : Obj} {v : Value} {xs : List Value} (h : wr.ownsRow N T m v n xs) (hb : Below (wr.alloc o).heap.size (wr.alloc o) w3) (v1 v2 : Value) (o' : Obj) :
    (((w3.setCell ⟨wr.heap.size, 1, none⟩ v1).setCell ⟨wr.heap.size, 2, none⟩ v2).alloc o').ownsRow N T m v n xs := by
  have hs := hb.size
  have h3 := ownsRow_of_block h (fun k hk _ => (below_alloc hb).block k hk)
  refine World.ownsRow.alloc ?_ _
  refine ownsRow_of_block h3 (fun k hk hv => ?_)
  have hkw := (h.lt k hv).2
  rw [heap_setCell_other _ _ _ _ (fun e => by have : k = wr.heap.size := (by first | exact e | exact e.symm); omega), heap_setCell_other _ _ _ _ (fun e => by have : k = wr.heap.size := (by first | exact e | exact e.symm); omega)]
theorem marks_below {w wr w3 w5 : World} {o o' : Obj} {v1 v2 : Value} {row : Option Nat} (h : Below w.heap.size w wr) (hb : Below (wr.alloc o).heap.size (wr.alloc o) w3) (hg : (((w3.setCell ⟨wr.heap.size, 1, none⟩ v1).setCell ⟨wr.heap.size, 2, none⟩ v2).alloc o').grownBy w5 row) (hr : ∀ k, row = some k → w.heap.size ≤ k ∧ k < wr.heap.size) : Below w.heap.size w w5 := by
  have h3 : Below w.heap.size w w3 := h.trans ((below_alloc hb).mono h.size)
  have h4 := (h3.setCell (p := ⟨wr.heap.size, 1, none⟩) h.size v1).setCell (p := ⟨wr.heap.size, 2, none⟩) h.size v2
  exact (h4.alloc h4.size o').grown hg (by have := h3.size; simp; omega) (fun k hk => (hr k hk).1)
theorem done_add {w5 : World} {N m : Nat} {v : Value} {evs : List Dsr.Ev} {D : Dsr.Ev → Dsr.Ev} {x : Dsr.Ev} {vals : List Value} (h : w5.ownsRow N 48 3 v (m + 1) (((evs.take m).map D).flatMap mkC ++ vals)) (hx : evs[m]? = some x) (hv : vals = mkC (D x)) : w5.ownsRow N 48 3 v (m + 1) (((evs.take (m + 1)).map D).flatMap mkC) := by
  rw [List.take_add_one, hx, List.map_append, List.flatMap_append]
  subst hv
  simpa using h
set_option maxRecDepth 100000 in
set_option maxHeartbeats 3200000 in
theorem rDone_any {B b Bm : Nat} {w : World} {l : LK} {s : LS} {evs : List Dsr.Ev} {mv : Value} (n : List UInt8) (h : LkAt B b w l s) (hm : w.ownsRow Bm 48 3 mv evs.length (evs.flatMap mkC)) (hk : MkOf l evs) (hl : l.rules.length ≤ 1000) (he : l.events.length ≤ 1000) :
    Calls Tryz.prog 222 #[ptrG b, mv, strV n] w fun x w' => ∃ v', x = .returned v' ∧ w'.ownsRow w.heap.size 48 3 v' evs.length ((evs.map (doneQ l.rules n)).flatMap mkC) ∧ Below w.heap.size w w' := by
  obtain ⟨ae, ce, ar, cr, au, cu, hve, hvr, hvu⟩ := h.shapes
  obtain ⟨am, cm, rfl⟩ := owned_shape hm
  have HV : Hid (s.ve = .slice ae l.events.length ce) := hve
  have H : Hid (LkAt B b w l s ∧ w.ownsRow Bm 48 3 (.slice am evs.length cm) evs.length (evs.flatMap mkC) ∧ MkOf l evs ∧ l.rules.length ≤ 1000) := ⟨h, hm, hk, hl⟩
  have hz : (evs.length : Int) ≤ 1000 := by rw [hk.len]; omega
  clear h hve hvr hvu hm hk hl he
  go_enter Tryz.func222, Tryz.ntmps222
  go_wp2_with fail
  go_loopg [7, 8] evs.length (fun g v i wr => ∃ m : Nat, i = .int .i64 m ∧ m + g = evs.length ∧ wr.ownsRow w.heap.size 48 3 v m (((evs.take m).map (doneQ l.rules n)).flatMap mkC) ∧ Below w.heap.size w wr)
  case atStart => exact ⟨0, rfl, by omega, World.ownsRow_nil _ _ _ _, Below.refl _ _⟩
  case round =>
    obtain ⟨m, rfl, hn, hown, hb⟩ := hrel
    obtain ⟨ao, co, rfl⟩ := owned_shape hown
    by_cases hi : m < evs.length
    · obtain ⟨x, hx⟩ : ∃ x, evs[m]? = some x := ⟨_, List.getElem?_eq_getElem hi⟩
      have ho := H.out.2.1
      obtain ⟨gm, rfl, hc1, hc2⟩ := own_some ho (by omega)
      have ho1 := ownsRow_of_block ho (fun k hk _ => hb.block k hk)
      obtain ⟨q0, q1, q2, hgm⟩ := mk_at ho1 hx
      obtain ⟨e, hex, hnm, hro⟩ := H.out.2.2.1.at hx
      have hl1 := H.out.1.aside hb
      obtain ⟨c0, c1, c2, c3, c4, c5, c6, c7, c8, fz⟩ := hl1.cells
      rw [HV.out] at c4
      have hlt := hl1.lt
      have hie : m < l.events.length := (List.getElem?_eq_some_iff.1 hex).1
      obtain ⟨ge, v, rfl, hvx, hgl, e0, e1, e2, e3, e4, hd1, hd2⟩ := hl1.evAt HV.out hex
      rw [hnm] at e0
      have HR : Hid (LkAt B b wr l s ∧ wr.ownsRow w.heap.size 48 3 (.slice ao m co) m (((evs.take m).map (doneQ l.rules n)).flatMap mkC) ∧ Below w.heap.size w wr ∧ evs[m]? = some x) := ⟨hl1, hown, hb, hx⟩
      obtain ⟨k, rfl⟩ : ∃ k, gk = k + 1 := ⟨gk - 1, by omega⟩
      clear hl1 hown hb hx ho ho1 hvx c0 c1 c2 c3 c5 c6 c7 c8 hex hnm hro e1 e2 e3 e4
      go_wp2_with fail
      all_goals
        refine (rHas_any 5 n x.name (HR.out.1.aside ((Below.refl _ _).alloc (Nat.le_refl _) _)) H.out.2.2.2).mono ?_
        rintro y w1 ⟨rfl, b1⟩
        have HB1 : Hid (Below _ _ w1) := b1
        clear b1
        go_wp2_with fail
        refine (rHas_any 4 n x.name (HR.out.1.aside (below_alloc HB1.out)) H.out.2.2.2).mono ?_
        rintro y w2 ⟨rfl, b2⟩
        have HB2 : Hid (Below _ _ w2) := HB1.out.trans (b2.mono HB1.out.size)
        clear b2
        go_wp2_with fail
        refine (rHas_any 3 n x.name (HR.out.1.aside (below_alloc HB2.out)) H.out.2.2.2).mono ?_
        rintro y w3 ⟨rfl, b3⟩
        have HB3 : Hid (Below _ _ w3) := HB2.out.trans (b3.mono HB2.out.size)
        clear b3
        have p3 := (HB3.out.block wr.heap.size (by simp)).trans (heap_alloc_new _ _)
        have hwl : wr.heap.size < w3.heap.size := (Array.getElem?_eq_some_iff.1 p3).1
        obtain ⟨x0, x1, x2, xf⟩ := cells3M p3
        clear p3
        obtain ⟨h5, hh5⟩ : ∃ q, q = hasR l.rules 5 n x.name := ⟨_, rfl⟩
        obtain ⟨h4, hh4⟩ : ∃ q, q = hasR l.rules 4 n x.name := ⟨_, rfl⟩
        obtain ⟨h3, hh3⟩ : ∃ q, q = hasR l.rules 3 n x.name := ⟨_, rfl⟩
        rw [← hh5, ← hh4, ← hh3]
        have HH : Hid (h5 = hasR l.rules 5 n x.name ∧ h4 = hasR l.rules 4 n x.name ∧ h3 = hasR l.rules 3 n x.name) := ⟨hh5, hh4, hh3⟩
        clear hh5 hh4 hh3
        have HU : Hid (∀ v1 v2 o, (((w3.setCell ⟨wr.heap.size, 1, none⟩ v1).setCell ⟨wr.heap.size, 2, none⟩ v2).alloc o).ownsRow w.heap.size 48 3 (.slice ao m co) m (((evs.take m).map (doneQ l.rules n)).flatMap mkC)) := fun v1 v2 o => after_marks HR.out.2.1 HB3.out v1 v2 o
        have hwr : w.heap.size ≤ wr.heap.size := HR.out.2.2.1.size
        obtain ⟨i0, hi0, hz0, hz1, hz2⟩ := info_parts info_mark
        go_wp2_with (at_builtin; refine wpList_append_lies _ rfl (.tmp 65) (.tmp 67) 276 rfl w.heap.size 48 i0 _ 3 3 Tryz.underlying276 hi0 hz0 hz1 hz2 rfl (by decide) (.slice ao m co) m _ (by simp [Act.eval, Act.put]) (HU.out _ _ _) ⟨w3.heap.size, 0, none⟩ 1 1 [.bool _, .bool _, .bool _] (by simp [Act.eval, Act.put]) rfl (by exact news_l (by simp)) (by intro u hu; simp at hu; rcases hu with rfl | rfl | rfl <;> rfl) (by decide) (by unfold maxLen; omega) (by omega) (by simp; omega) _ rfl ?_; intro g' cap w5 hown hgrow hat hlt5)
        all_goals
          have b5 : Below w.heap.size w w5 := marks_below HR.out.2.2.1 HB3.out hgrow (fun k hk => (HR.out.2.1.lt k hk))
          obtain ⟨e5, e4, e3⟩ := HH.out
          go_roundg k
          case measure => omega
          case rel => exact ⟨m + 1, by go_num, by omega, done_add hown HR.out.2.2.2 (by unfold mkC doneQ; rw [← e5, ← e4, ← e3]; simp [*]), b5⟩
    · have hml : m = evs.length := by omega
      subst hml
      rw [List.take_length] at hown
      have HR : Hid (wr.ownsRow w.heap.size 48 3 (.slice ao evs.length co) evs.length ((evs.map (doneQ l.rules n)).flatMap mkC) ∧ Below w.heap.size w wr) := ⟨hown, hb⟩
      clear hown hb
      go_wp2_with fail
      go_ret
      exact ⟨_, rfl, HR.out.1, HR.out.2⟩
end Go.Proofs.YtjmcokcdaddpcaaGreatDoor
set_option linter.unusedVariables false
set_option linter.unusedSimpArgs false
namespace Go.Proofs.YtjmcokcdaddpcaaGreatDoor
open Go.RowKit
abbrev evA (x : Dsr.Ev) (v : Value) : Value := .agg #[strV x.name, v, .bool x.done, .bool x.inn, .bool x.due]
theorem joinC_snoc : ∀ (l : List (List UInt8)) (x : List UInt8), Dsr.joinC (l ++ [x]) = if l = [] then x else Dsr.joinC l ++ ([44, 32] ++ x)
  | [], x => by simp [Dsr.joinC, List.intercalate, List.intersperse]
  | [a], x => by simp [Dsr.joinC, List.intercalate, List.intersperse]
  | a :: b :: l, x => by
    have ih := joinC_snoc (b :: l) x
    simp only [List.cons_append, reduceCtorEq, if_false] at ih ⊢
    unfold Dsr.joinC at ih ⊢
    simp only [List.intercalate, List.intersperse_cons_cons, List.flatten_cons] at ih ⊢
    rw [ih]
    simp [List.append_assoc]
theorem app2 (a b : List UInt8) : (⟨a.toArray⟩ ++ ⟨b.toArray⟩ : ByteArray) = ⟨(a ++ b).toArray⟩ := by
  apply ByteArray.ext; simp
theorem str3g (a b e : List UInt8) : Value.string (⟨a.toArray⟩ ++ ⟨b.toArray⟩ ++ ⟨e.toArray⟩ : ByteArray) = strV (a ++ b ++ e) := by rw [app2, app2]
theorem strApp (a b : List UInt8) : Value.string (⟨a.toArray⟩ ++ ⟨b.toArray⟩ : ByteArray) = strV (a ++ b) := by rw [app2]
theorem ev5_cells {w : World} {n : Nat} {T : TypeId} {a b c d e : Value} (h : w.heap[n]? = some (.cells #[a, b, c, d, e] T (0, 0))) : w.cell? ⟨n, 0, none⟩ = some a ∧ w.cell? ⟨n, 1, none⟩ = some b ∧ w.cell? ⟨n, 2, none⟩ = some c ∧ w.cell? ⟨n, 3, none⟩ = some d ∧ w.cell? ⟨n, 4, none⟩ = some e := by
  refine ⟨?_, ?_, ?_, ?_, ?_⟩ <;> simp [World.cell?, h]
def evHead (nm : List UInt8) : List UInt8 := [101, 118, 101, 110, 116, 32] ++ nm ++ [32, 98, 121, 32]
theorem pair_len {out rl : List (List UInt8)} (h : out.Pairwise (· < ·)) (hm : ∀ r ∈ out, r ∈ rl) : out.length ≤ rl.length := by
  induction out generalizing rl with
  | nil => simp
  | cons a out ih =>
    obtain ⟨h1, h2⟩ := List.pairwise_cons.1 h
    have ha : a ∈ rl := hm a (by simp)
    obtain ⟨p, q, rfl⟩ := List.append_of_mem ha
    have := ih (rl := p ++ q) h2 (fun r hr => by
      have hne : r ≠ a := by rintro rfl; exact List.lt_irrefl _ (h1 r hr)
      have := hm r (List.mem_cons_of_mem _ hr)
      simp at this ⊢
      rcases this with h | h | h
      · exact .inl h
      · exact absurd h hne
      · exact .inr h)
    simp at this ⊢
    omega
set_option maxRecDepth 100000 in
set_option maxHeartbeats 1600000 in
theorem rwritten_any {B : Nat} {w : World} {v : Value} (x : Dsr.Ev) (h : w.ownsRow B 9 1 v x.roles.length (x.roles.map strV)) (hl : x.roles.length ≤ 1000) (hn : x.name.length ≤ 1000) (hr : ∀ r ∈ x.roles, r.length ≤ 1000) :
    Calls Tryz.prog 117 #[evA x v] w fun e w' => ∃ out : List (List UInt8), e = .returned (strV (Dsr.evLine { x with roles := out })) ∧ (out.Pairwise (· < ·) ∧ ∀ r, r ∈ out ↔ r ∈ x.roles ∧ r ≠ []) ∧ out.length ≤ 1000 ∧ Below w.heap.size w w' := by
  obtain ⟨nm, rl, dn, inn, du⟩ := x
  have H : Hid (w.ownsRow B 9 1 v rl.length (rl.map strV)) := h
  have hz : (nm.length : Int) ≤ 1000 := by have : nm.length ≤ 1000 := hn; omega
  have hl : rl.length ≤ 1000 := hl
  have HR : Hid (∀ r ∈ rl, r.length ≤ 1000) := hr
  clear h hn hr
  go_enter Tryz.func117, Tryz.ntmps117
  go_wp2_with fail
  refine (rOrdered_any (H.out.alloc _) hl).mono ?_
  rintro e w1 ⟨v', out, rfl, ho, hown, hb⟩
  have hol : out.length ≤ 1000 := Nat.le_trans (pair_len ho.1 (fun r hr => ((ho.2 r).1 hr).1)) hl
  have hor : ∀ r ∈ out, r.length ≤ 1000 := fun r hr => HR.out r ((ho.2 r).1 hr).1
  have q1 : w1.heap[w.heap.size]? = some (.cells #[strV nm, v, .bool dn, .bool inn, .bool du] 226 (0, 0)) := (hb.block _ (by simp)).trans (heap_alloc_new _ _)
  obtain ⟨z0, z1, z2, z3, z4⟩ := ev5_cells q1
  have HB1 : Hid (Below w.heap.size w w1) := (below_alloc1 _).trans (hb.mono (by simp))
  obtain ⟨a, c, rfl⟩ := owned_shape hown
  have HO : Hid ((out.Pairwise (· < ·) ∧ ∀ r, r ∈ out ↔ r ∈ rl ∧ r ≠ []) ∧ w1.ownsRow (w.alloc (.cells #[strV nm, v, .bool dn, .bool inn, .bool du] 226)).heap.size 9 1 (.slice a out.length c) out.length (out.map strV) ∧ ∀ r ∈ out, r.length ≤ 1000) := ⟨ho, hown, hor⟩
  clear ho hown hb q1 hor
  have holI : (out.length : Int) ≤ 1000 := by omega
  go_wp2_with fail
  go_loopg [3, 5] out.length (fun g sv iv wr => ∃ (q : List UInt8) (n : Nat), sv = strV q ∧ iv = .int .i64 n ∧ n + g = out.length ∧ q = evHead nm ++ Dsr.joinC (out.take n) ∧ q.length ≤ 1010 + n * 1002 ∧ wr = w1)
  case atStart => exact ⟨evHead nm, 0, str3g [101, 118, 101, 110, 116, 32] nm [32, 98, 121, 32], rfl, by omega, by simp [Dsr.joinC], by simp [evHead]; omega, rfl⟩
  case round =>
    obtain ⟨q, n, rfl, rfl, hn, hq, hql, rfl⟩ := hrel
    have hqI : (q.length : Int) ≤ 1003010 := by omega
    by_cases hi : n < out.length
    · obtain ⟨x, hx⟩ : ∃ x, out[n]? = some x := ⟨_, List.getElem?_eq_getElem hi⟩
      have ho := HO.out.2.1
      obtain ⟨g, rfl, hc1, hc2⟩ := own_some ho (by omega)
      have e0 : wr.cell? ⟨g, n, none⟩ = some (strV x) := str_at ho hx
      obtain ⟨m, rfl⟩ : ∃ m, gk = m + 1 := ⟨gk - 1, by omega⟩
      have hxl : x.length ≤ 1000 := HO.out.2.2 x (List.mem_of_getElem? hx)
      have hxI : (x.length : Int) ≤ 1000 := by omega
      have HQ : Hid (q = evHead nm ++ Dsr.joinC (out.take n) ∧ out[n]? = some x) := ⟨hq, hx⟩
      clear hq hx ho
      by_cases hn0 : n = 0
      · subst hn0
        go_wp2_with fail
        go_roundg m
        case measure => omega
        case rel => exact ⟨q ++ x, 1, by rw [← strApp], by go_num, by omega, by rw [HQ.out.1, take_at HQ.out.2, joinC_snoc, if_pos (by simp)]; simp [Dsr.joinC], by simp; omega, rfl⟩
      · have hn1 : (0 : Int) < (n : Int) := by omega
        go_wp2_with fail
        go_roundg m
        case measure => omega
        case rel => exact ⟨q ++ ([44, 32] ++ x), n + 1, by rw [← List.append_assoc, ← strApp, ← app2], by go_num, by omega, by rw [HQ.out.1, take_at HQ.out.2, joinC_snoc, if_neg (by intro h; have := congrArg List.length h; rw [List.length_take, List.length_nil] at this; omega)]; simp [List.append_assoc], by simp; omega, rfl⟩
    · have hnl : n = out.length := by omega
      subst hnl
      have HQ : Hid (q = evHead nm ++ Dsr.joinC out) := (by rw [hq, List.take_length] : q = evHead nm ++ Dsr.joinC out)
      clear hq
      rcases inn with _ | _ <;> rcases du with _ | _ <;> rcases dn with _ | _
      all_goals
        go_wp2_with fail
        go_ret
        refine ⟨out, ?_, HO.out.1, hol, HB1.out⟩
        rw [HQ.out]
        simp [Dsr.evLine, evHead, ByteArray.mk_append_mk]
end Go.Proofs.YtjmcokcdaddpcaaGreatDoor
