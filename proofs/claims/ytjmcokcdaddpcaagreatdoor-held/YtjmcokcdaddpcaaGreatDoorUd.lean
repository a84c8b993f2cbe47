import Derived.Test.YtjmcokcdaddpcaaGreatDoorUc
import Derived.Test.YtjmcokcdaddpcaaGreatDoorUa
import Derived.Test.YtjmcokcdaddpcaaGreatDoorNmA
import Derived.Test.YtjmcokcdaddpcaaGreatDoorNmB
import Derived.Laws.EntriesVeiled
set_option linter.unusedVariables false
set_option linter.unusedSimpArgs false
namespace Go.Proofs.YtjmcokcdaddpcaaGreatDoor
open Go.RowKit
/-- A slice of the call's own, what lies in it. -/
structure Row where
  v : Value
  e : TypeId
  m : Nat
  n : Nat
  xs : List Value
def Row.ok (B : Nat) (w : World) (r : Row) : Prop := w.ownsRow B r.e r.m r.v r.n r.xs
/-- The blocks of the fixed ones and of the rows. -/
def Owns (fs : List Nat) (rows : List Row) (k : Nat) : Prop := k ∈ fs ∨ ∃ r ∈ rows, r.v.ownBlock = some k
structure RowsOk (B : Nat) (w : World) (fs : List Nat) (rows : List Row) : Prop where
  own : ∀ r ∈ rows, r.ok B w
  apart : (fs.map some ++ rows.map (·.v.ownBlock)).Pairwise Differ
  low : ∀ f ∈ fs, B ≤ f ∧ f < w.heap.size
section
variable {B : Nat} {w w' : World} {fs : List Nat} {rows : List Row}
theorem RowsOk.lt (h : RowsOk B w fs rows) {k : Nat} (hk : Owns fs rows k) : B ≤ k ∧ k < w.heap.size := by
  rcases hk with hk | ⟨r, hr, hk⟩
  · exact h.low k hk
  · exact (h.own r hr).lt k hk
theorem RowsOk.same (h : RowsOk B w fs rows) (hs : w.heap.size ≤ w'.heap.size) (hk : ∀ k, k < w.heap.size → Owns fs rows k → w'.heap[k]? = w.heap[k]?) : RowsOk B w' fs rows :=
  ⟨fun r hr => ownsRow_of_block (h.own r hr) fun k hk1 hv => hk k hk1 (.inr ⟨r, hr, hv⟩), h.apart, fun f hf => ⟨(h.low f hf).1, Nat.lt_of_lt_of_le (h.low f hf).2 hs⟩⟩
theorem RowsOk.kp {S : Nat → Prop} (h : RowsOk B w fs rows) (hk : Kp S w w') (hS : ∀ k, S k → ¬ Owns fs rows k) : RowsOk B w' fs rows :=
  h.same hk.size fun k hk1 ho => hk.block k hk1 (fun hs => hS k hs ho)
/-- A row's block is no fixed one. -/
theorem RowsOk.notFixed (h : RowsOk B w fs rows) {r : Row} (hr : r ∈ rows) {k : Nat} (hk : r.v.ownBlock = some k) : k ∉ fs := by
  intro hf
  have := (List.pairwise_append.1 h.apart).2.2 (some k) (List.mem_map.2 ⟨k, hf, rfl⟩) r.v.ownBlock (List.mem_map.2 ⟨r, hr, rfl⟩)
  rcases this with h1 | h1
  · cases h1
  · exact h1 hk.symm
/-- A cell of a fixed block is written. -/
theorem RowsOk.put (h : RowsOk B w fs rows) {f : Nat} (hf : f ∈ fs) (o : Nat) (v : Value) : RowsOk B (w.setCell ⟨f, o, none⟩ v) fs rows :=
  ⟨fun r hr => ownsRow_of_block (h.own r hr) fun k hk1 hv => heap_setCell_other _ _ _ _ (fun e => h.notFixed hr hv (by rw [e]; exact hf)), h.apart, fun f' hf' => ⟨(h.low f' hf').1, by simpa [World.setCell] using (h.low f' hf').2⟩⟩
theorem RowsOk.alloc (h : RowsOk B w fs rows) (o : Obj) : RowsOk B (w.alloc o) fs rows := h.same (by simp) fun k hk _ => Below.heap_alloc _ _ _ hk
theorem RowsOk.drew (h : RowsOk B w fs rows) : RowsOk B w.drew fs rows := ⟨h.own, h.apart, h.low⟩
theorem RowsOk.drewN (h : RowsOk B w fs rows) (n : Nat) : RowsOk B (w.drewN n) fs rows := ⟨h.own, h.apart, h.low⟩
theorem RowsOk.get (h : RowsOk B w fs rows) {i : Nat} {r : Row} (hr : rows[i]? = some r) : r.ok B w := h.own r (List.mem_of_getElem? hr)
/-- Two rows' blocks differ. -/
theorem RowsOk.differ (h : RowsOk B w fs rows) {i j : Nat} {r q : Row} (hr : rows[i]? = some r) (hq : rows[j]? = some q) (hij : i ≠ j) {k : Nat} (hk : r.v.ownBlock = some k) : q.v.ownBlock ≠ some k := by
  have hp := (List.pairwise_append.1 h.apart).2.1
  rw [List.pairwise_map] at hp
  obtain ⟨hi, rfl⟩ := List.getElem?_eq_some_iff.1 hr
  obtain ⟨hj, rfl⟩ := List.getElem?_eq_some_iff.1 hq
  rw [List.pairwise_iff_getElem] at hp
  rcases Nat.lt_or_gt_of_ne hij with h1 | h1
  · exact differ_ne (hp i j hi hj h1) hk
  · exact differ_ne (differ_symm (hp j i hj hi h1)) hk
/-- The row number i has been replaced, its block the old one or a new one. -/
theorem RowsOk.setRow (h : RowsOk B w fs rows) {i : Nat} {r r' : Row} (hr : rows[i]? = some r) (hok : r'.ok B w') (hs : w.heap.size ≤ w'.heap.size)
    (hb : ∀ k, k < w.heap.size → some k ≠ r.v.ownBlock → w'.heap[k]? = w.heap[k]?) (hat : ∀ g, r'.v.ownBlock = some g → r.v.ownBlock = some g ∨ w.heap.size ≤ g) : RowsOk B w' fs (rows.set i r') := by
  obtain ⟨hi, hri⟩ := List.getElem?_eq_some_iff.1 hr
  have hmem : r ∈ rows := List.mem_of_getElem? hr
  have hother : ∀ j q, j ≠ i → rows[j]? = some q → ∀ k, q.v.ownBlock = some k → r.v.ownBlock ≠ some k := fun j q hj hq k hk => h.differ hq hr hj hk
  have hdiff : ∀ x : Option Nat, (∀ k, x = some k → k < w.heap.size ∧ r.v.ownBlock ≠ some k) → Differ x r'.v.ownBlock := by
    intro x hx
    rcases hxx : x with _ | k
    · exact .inl rfl
    · right
      intro e
      rcases hat k e.symm with h1 | h1
      · exact (hx k hxx).2 h1
      · have := (hx k hxx).1; omega
  refine ⟨?_, ?_, fun f hf => ⟨(h.low f hf).1, Nat.lt_of_lt_of_le (h.low f hf).2 hs⟩⟩
  · intro q hq
    obtain ⟨j, hj, rfl⟩ := List.getElem_of_mem hq
    rw [List.length_set] at hj
    by_cases e : j = i
    · subst e
      rw [List.getElem_set_self]
      exact hok
    · rw [List.getElem_set_ne (fun x => e x.symm)]
      have hqj : rows[j]? = some rows[j] := List.getElem?_eq_getElem hj
      exact ownsRow_of_block (h.own _ (List.getElem_mem hj)) fun k hk hv => hb k hk (fun e' => hother j _ e hqj k hv e'.symm)
  · have hp := List.pairwise_append.1 h.apart
    refine List.pairwise_append.2 ⟨hp.1, ?_, ?_⟩
    · rw [List.pairwise_map, List.pairwise_iff_getElem]
      intro a b ha hb' hab
      have ha2 : a < rows.length := by simpa using ha
      have hb2 : b < rows.length := by simpa using hb'
      have hpp := hp.2.1
      rw [List.pairwise_map, List.pairwise_iff_getElem] at hpp
      by_cases ea : a = i
      · subst ea
        have eb : a ≠ b := by omega
        rw [List.getElem_set_self, List.getElem_set_ne eb]
        have hqb : rows[b]? = some rows[b] := List.getElem?_eq_getElem hb2
        exact differ_symm (hdiff _ (fun k hk => ⟨((h.own _ (List.getElem_mem hb2)).lt k hk).2, hother b _ (fun x => eb x.symm) hqb k hk⟩))
      · rw [List.getElem_set_ne (fun x => ea x.symm)]
        have hqa : rows[a]? = some rows[a] := List.getElem?_eq_getElem ha2
        by_cases eb : b = i
        · subst eb
          rw [List.getElem_set_self]
          exact hdiff _ (fun k hk => ⟨((h.own _ (List.getElem_mem ha2)).lt k hk).2, hother a _ ea hqa k hk⟩)
        · rw [List.getElem_set_ne (fun x => eb x.symm)]
          exact hpp a b ha2 hb2 hab
    · intro x hx y hy
      obtain ⟨f, hf, rfl⟩ := List.mem_map.1 hx
      obtain ⟨q, hq, rfl⟩ := List.mem_map.1 hy
      rcases List.mem_or_eq_of_mem_set hq with hq | rfl
      · exact hp.2.2 _ hx _ (List.mem_map.2 ⟨q, hq, rfl⟩)
      · exact hdiff _ (fun k hk => by cases hk; exact ⟨(h.low f hf).2, fun e => h.notFixed hmem e hf⟩)
/-- A cell of the row number i is written. -/
theorem RowsOk.setIn (h : RowsOk B w fs rows) {i : Nat} {r : Row} (hr : rows[i]? = some r) {g c : Nat} (hv : r.v = .slice (some ⟨g, 0, none⟩) r.n c) (j : Nat) (u : Value) :
    RowsOk B (w.setCell ⟨g, j, none⟩ u) fs (rows.set i { r with xs := r.xs.set j u }) := by
  have hok := h.get hr
  have hst : (w.setCell ⟨g, j, none⟩ u).ownsRow B r.e r.m r.v r.n (r.xs.set j u) := by
    unfold Row.ok at hok
    rw [hv] at hok ⊢
    exact (hok.stored j u).1
  refine h.setRow hr hst (by simp [World.setCell]) (fun k hk hn => heap_setCell_other _ _ _ _ (fun e => hn (by rw [hv, e]; rfl))) (fun g' hg' => .inl hg')
/-- A row more. -/
theorem RowsOk.add (h : RowsOk B w fs rows) {r : Row} (hok : r.ok B w) (hn : ∀ k, r.v.ownBlock = some k → ¬ Owns fs rows k) : RowsOk B w fs (rows ++ [r]) := by
  have hdiff : ∀ x : Option Nat, (∀ k, x = some k → Owns fs rows k) → Differ x r.v.ownBlock := by
    intro x hx
    rcases hxx : x with _ | k
    · exact .inl rfl
    · exact .inr (fun e => hn k e.symm (hx k hxx))
  refine ⟨?_, ?_, h.low⟩
  · intro q hq
    rcases List.mem_append.1 hq with hq | hq
    · exact h.own q hq
    · simp at hq; subst hq; exact hok
  · rw [List.map_append, ← List.append_assoc]
    refine List.pairwise_append.2 ⟨h.apart, by simp, ?_⟩
    intro x hx y hy
    simp at hy
    subst hy
    refine hdiff x (fun k hk => ?_)
    subst hk
    rcases List.mem_append.1 hx with hx | hx
    · obtain ⟨f, hf, e⟩ := List.mem_map.1 hx
      cases e
      exact .inl hf
    · obtain ⟨q, hq, e⟩ := List.mem_map.1 hx
      exact .inr ⟨q, hq, e⟩
end
end Go.Proofs.YtjmcokcdaddpcaaGreatDoor
set_option linter.unusedVariables false
set_option linter.unusedSimpArgs false
namespace Go.Proofs.YtjmcokcdaddpcaaGreatDoor
open Go.RowKit
theorem own_cellS {w : World} {B : Nat} {e : TypeId} {m g c n : Nat} {xs : List Value} (h : w.ownsRow B e m (.slice (some ⟨g, 0, none⟩) n c) n xs) {j : Nat} {u : Value} (hu : xs[j]? = some u) : w.cell? ⟨g, j, none⟩ = some u := by
  have := h.cells (g := g) rfl j u hu
  simpa [Addr.add_lit] using this
theorem nodup_ij {α : Type} {l : List α} (h : l.Nodup) {i j : Nat} (hi : i < l.length) (hj : j < l.length) (e : l[i] = l[j]) : i = j := by
  rcases Nat.lt_trichotomy i j with h1 | h1 | h1
  · exact absurd e (List.pairwise_iff_getElem.1 h i j hi hj h1)
  · exact h1
  · exact absurd e.symm (List.pairwise_iff_getElem.1 h j i hj hi h1)
/-- Where a state lies: its block, its events' blocks, its rows, the events' roles. -/
structure SA where
  sb : Nat
  eb : List Nat
  ve : Value
  vr : Value
  rv : List Value
abbrev nms (es : List Dsr.Ev) : List (List UInt8) := es.map (·.name)
def ebOf (ns : List (List UInt8)) (eb : List Nat) (n : List UInt8) : Nat := eb.getD (ns.idxOf n) 0
def ruS (ns : List (List UInt8)) (eb : List Nat) (r : Dsr.Rl) : List Value := [.int .u8 r.kind, ptr (ebOf ns eb r.left), ptr (ebOf ns eb r.right)]
abbrev evB (e : Dsr.Ev) (v : Value) : Obj := .cells #[strV e.name, v, .bool e.done, .bool e.inn, .bool e.due] 177 (0, 0)
def stRows (es : List Dsr.Ev) (rs : List Dsr.Rl) (a : SA) : List Row := [⟨a.ve, 175, 1, es.length, a.eb.map ptr⟩, ⟨a.vr, 180, 3, rs.length, rs.flatMap (ruS (nms es) a.eb)⟩]
/-- A graph that was let in. -/
structure GOk (es : List Dsr.Ev) (rs : List Dsr.Rl) : Prop where
  nodup : (nms es).Nodup
  known : ∀ r ∈ rs, r.left ∈ nms es ∧ r.right ∈ nms es
  kind : ∀ r ∈ rs, r.kind < 5
  esl : es.length ≤ 1000
  rsl : rs.length ≤ 1000
  rol : ∀ e ∈ es, e.roles.length ≤ 1000
structure StAt (N : Nat) (w : World) (es : List Dsr.Ev) (rs : List Dsr.Rl) (a : SA) : Prop where
  rows : RowsOk N w (a.sb :: a.eb) (stRows es rs a)
  blk : w.heap[a.sb]? = some (.cells #[a.ve, a.vr] 174 (0, 0))
  len : a.eb.length = es.length
  rlen : a.rv.length = es.length
  ev : ∀ (i : Nat) (e : Dsr.Ev) (b : Nat) (v : Value), es[i]? = some e → a.eb[i]? = some b → a.rv[i]? = some v → w.heap[b]? = some (evB e v)
  rol : ∀ (i : Nat) (e : Dsr.Ev) (v : Value), es[i]? = some e → a.rv[i]? = some v → (∃ B, w.ownsRow B 9 1 v e.roles.length (e.roles.map strV)) ∧ ∀ k, v.ownBlock = some k → k < N
/-- All blocks of a state. -/
def Foot (es : List Dsr.Ev) (rs : List Dsr.Rl) (a : SA) (k : Nat) : Prop := Owns (a.sb :: a.eb) (stRows es rs a) k ∨ ∃ v ∈ a.rv, v.ownBlock = some k
section
variable {N : Nat} {w w' : World} {es : List Dsr.Ev} {rs : List Dsr.Rl} {a : SA}
theorem StAt.rvAt (h : StAt N w es rs a) {v : Value} (hv : v ∈ a.rv) : ∃ (i : Nat) (e : Dsr.Ev), es[i]? = some e ∧ a.rv[i]? = some v := by
  obtain ⟨i, hi, rfl⟩ := List.getElem_of_mem hv
  have : i < es.length := by rw [← h.rlen]; exact hi
  exact ⟨i, es[i], List.getElem?_eq_getElem this, List.getElem?_eq_getElem hi⟩
theorem StAt.same (h : StAt N w es rs a) (hs : w.heap.size ≤ w'.heap.size) (hk : ∀ k, k < w.heap.size → Foot es rs a k → w'.heap[k]? = w.heap[k]?) : StAt N w' es rs a := by
  refine ⟨h.rows.same hs (fun k h1 h2 => hk k h1 (.inl h2)), ?_, h.len, h.rlen, ?_, ?_⟩
  · rw [hk a.sb (h.rows.lt (.inl (by simp))).2 (.inl (.inl (by simp)))]; exact h.blk
  · intro i e b v h1 h2 h3
    have hm : b ∈ a.eb := List.mem_of_getElem? h2
    rw [hk b (h.rows.lt (.inl (by simp [hm]))).2 (.inl (.inl (by simp [hm])))]
    exact h.ev i e b v h1 h2 h3
  · intro i e v h1 h2
    obtain ⟨⟨B, ho⟩, hl⟩ := h.rol i e v h1 h2
    exact ⟨⟨B, ownsRow_of_block ho fun k hk1 hv => hk k hk1 (.inr ⟨v, List.mem_of_getElem? h2, hv⟩)⟩, hl⟩
theorem StAt.kp {S : Nat → Prop} (h : StAt N w es rs a) (hk : Kp S w w') (hS : ∀ k, S k → ¬ Foot es rs a k) : StAt N w' es rs a :=
  h.same hk.size fun k h1 h2 => hk.block k h1 (fun hs => hS k hs h2)
theorem StAt.below (h : StAt N w es rs a) (hb : Below w.heap.size w w') : StAt N w' es rs a := h.same hb.size fun k h1 _ => hb.block k h1
theorem StAt.drew (h : StAt N w es rs a) : StAt N w.drew es rs a := h.same (Nat.le_refl _) fun _ _ _ => rfl
theorem StAt.alloc (h : StAt N w es rs a) (o : Obj) : StAt N (w.alloc o) es rs a := h.same (by simp) fun k hk _ => Below.heap_alloc _ _ _ hk
theorem StAt.nodup (h : StAt N w es rs a) : a.eb.Nodup ∧ a.sb ∉ a.eb := by
  have hp := (List.pairwise_append.1 h.rows.apart).1
  rw [List.pairwise_map, List.pairwise_cons] at hp
  refine ⟨hp.2.imp (fun {x y} hd => ?_), fun hm => ?_⟩
  · rcases hd with hd | hd
    · cases hd
    · exact fun e => hd (by rw [e])
  · rcases hp.1 _ hm with hd | hd
    · cases hd
    · exact hd rfl
theorem StAt.ebLt (h : StAt N w es rs a) {b : Nat} (hb : b ∈ a.eb) : N ≤ b ∧ b < w.heap.size := h.rows.lt (.inl (by simp [hb]))
theorem StAt.sbLt (h : StAt N w es rs a) : N ≤ a.sb ∧ a.sb < w.heap.size := h.rows.lt (.inl (by simp))
/-- The event number i has been written. -/
theorem StAt.setEv (h : StAt N w es rs a) {i b : Nat} {e e' : Dsr.Ev} {v : Value} (he : es[i]? = some e) (hb : a.eb[i]? = some b) (hv : a.rv[i]? = some v) (hn : e'.name = e.name) (hr : e'.roles = e.roles)
    (hs : w.heap.size ≤ w'.heap.size) (hw : w'.heap[b]? = some (evB e' v)) (ho : ∀ k, k < w.heap.size → k ≠ b → w'.heap[k]? = w.heap[k]?) : StAt N w' (es.set i e') rs a := by
  have hi : i < es.length := (List.getElem?_eq_some_iff.1 he).1
  have hbm : b ∈ a.eb := List.mem_of_getElem? hb
  have hnm : nms (es.set i e') = nms es := by
    have hei : es[i] = e := (List.getElem?_eq_some_iff.1 he).2
    refine List.ext_getElem (by simp) fun j h1 h2 => ?_
    simp only [nms, List.getElem_map, List.getElem_set]
    split
    · rename_i hij; subst hij; rw [hn, hei]
    · rfl
  have hrow : stRows (es.set i e') rs a = stRows es rs a := by unfold stRows; rw [hnm, List.length_set]
  refine ⟨?_, ?_, by simp [h.len], by simp [h.rlen], ?_, ?_⟩
  · rw [hrow]
    exact ⟨fun r hr => ownsRow_of_block (h.rows.own r hr) fun k hk hv => ho k hk (fun e => h.rows.notFixed hr hv (by rw [e]; simp [hbm])), h.rows.apart, fun f hf => ⟨(h.rows.low f hf).1, Nat.lt_of_lt_of_le (h.rows.low f hf).2 hs⟩⟩
  · rw [ho a.sb h.sbLt.2 (fun e => h.nodup.2 (by rw [e]; exact hbm))]; exact h.blk
  · intro j x c u h1 h2 h3
    by_cases hij : j = i
    · subst hij
      rw [List.getElem?_set_self hi] at h1
      cases h1
      rw [hb] at h2; cases h2
      rw [hv] at h3; cases h3
      exact hw
    · rw [List.getElem?_set_ne (fun x => hij x.symm)] at h1
      have hcb : c ≠ b := by
        intro e
        subst e
        have hj2 : j < a.eb.length := (List.getElem?_eq_some_iff.1 h2).1
        have hi2 : i < a.eb.length := (List.getElem?_eq_some_iff.1 hb).1
        have e1 := (List.getElem?_eq_some_iff.1 h2).2
        have e2 := (List.getElem?_eq_some_iff.1 hb).2
        exact hij (nodup_ij h.nodup.1 hj2 hi2 (e1.trans e2.symm))
      rw [ho c (h.ebLt (List.mem_of_getElem? h2)).2 hcb]
      exact h.ev j x c u h1 h2 h3
  · intro j x u h1 h2
    have : ∃ y, es[j]? = some y ∧ x.roles = y.roles := by
      by_cases hij : j = i
      · subst hij
        rw [List.getElem?_set_self hi] at h1
        cases h1
        exact ⟨e, he, hr⟩
      · rw [List.getElem?_set_ne (fun x => hij x.symm)] at h1
        exact ⟨x, h1, rfl⟩
    obtain ⟨y, hy, hxy⟩ := this
    obtain ⟨⟨B, hown⟩, hl⟩ := h.rol j y u hy h2
    rw [hxy]
    exact ⟨⟨B, ownsRow_of_block hown fun k hk hv => ho k hk (by have := hl k hv; have := (h.ebLt hbm).1; omega)⟩, hl⟩
/-- An event by its name. -/
theorem StAt.at (h : StAt N w es rs a) {n : List UInt8} (hn : n ∈ nms es) : ∃ (i : Nat) (e : Dsr.Ev) (b : Nat) (v : Value), es[i]? = some e ∧ e.name = n ∧ a.eb[i]? = some b ∧ a.rv[i]? = some v ∧ ebOf (nms es) a.eb n = b ∧ w.heap[b]? = some (evB e v) := by
  have hi : (nms es).idxOf n < (nms es).length := List.idxOf_lt_length_of_mem hn
  have hi2 : (nms es).idxOf n < es.length := by simpa [nms] using hi
  have hg : (nms es)[(nms es).idxOf n] = n := List.getElem_idxOf hi
  refine ⟨(nms es).idxOf n, es[(nms es).idxOf n], a.eb[(nms es).idxOf n]'(by rw [h.len]; exact hi2), a.rv[(nms es).idxOf n]'(by rw [h.rlen]; exact hi2), List.getElem?_eq_getElem hi2, ?_, List.getElem?_eq_getElem _, List.getElem?_eq_getElem _, ?_, ?_⟩
  · exact (List.getElem_map (fun e : Dsr.Ev => e.name) (l := es) (i := (nms es).idxOf n) (h := hi)).symm.trans hg
  · unfold ebOf
    rw [List.getD_eq_getElem?_getD, List.getElem?_eq_getElem (by rw [h.len]; exact hi2)]; rfl
  · exact h.ev _ _ _ _ (List.getElem?_eq_getElem hi2) (List.getElem?_eq_getElem _) (List.getElem?_eq_getElem _)
theorem idx_of {n : List UInt8} {i : Nat} {e : Dsr.Ev} (hg : (nms es).Nodup) (he : es[i]? = some e) (hn : e.name = n) : (nms es).idxOf n = i := by
  have hi : i < es.length := (List.getElem?_eq_some_iff.1 he).1
  have h1 : (nms es)[i]'(by simpa [nms] using hi) = n := by
    have := (List.getElem?_eq_some_iff.1 he).2
    simp [nms, this, hn]
  rw [← h1]
  exact List.Nodup.idxOf_getElem hg i _
theorem find_idx {n : List UInt8} {i : Nat} {e : Dsr.Ev} (hg : (nms es).Nodup) (he : es[i]? = some e) (hn : e.name = n) : Dsr.findE es n = some e := by
  have hi : i < es.length := (List.getElem?_eq_some_iff.1 he).1
  unfold Dsr.findE
  rw [List.find?_eq_some_iff_getElem]
  refine ⟨by simp [hn], i, hi, (List.getElem?_eq_some_iff.1 he).2, fun j hj => ?_⟩
  have hne : es[j].name ≠ n := by
    intro e1
    have := idx_of hg (List.getElem?_eq_getElem (show j < es.length by omega)) e1
    have := idx_of hg he hn
    omega
  simp [hne]
theorem find_none {n : List UInt8} (hn : n ∉ nms es) : Dsr.findE es n = none := by
  unfold Dsr.findE
  rw [List.find?_eq_none]
  intro x hx
  simp only [beq_iff_eq]
  exact fun e => hn (List.mem_map.2 ⟨x, hx, e⟩)
theorem set_modN {i : Nat} {e : Dsr.Ev} (f : Dsr.Ev → Dsr.Ev) (hg : (nms es).Nodup) (he : es[i]? = some e) : es.set i (f e) = Dsr.modN f e.name es := by
  have hi : i < es.length := (List.getElem?_eq_some_iff.1 he).1
  have hei := (List.getElem?_eq_some_iff.1 he).2
  refine List.ext_getElem (by simp [Dsr.modN]) fun j h1 h2 => ?_
  simp only [Dsr.modN, List.getElem_map, List.getElem_set]
  by_cases hij : i = j
  · subst hij
    simp [hei]
  · rw [if_neg hij]
    have hj : j < es.length := by simpa using h1
    have hne : (es[j].name == e.name) = false := by
      simp only [beq_eq_false_iff_ne]
      intro e1
      have := idx_of hg (List.getElem?_eq_getElem hj) e1
      have := idx_of hg he rfl
      omega
    simp [hne]
end
end Go.Proofs.YtjmcokcdaddpcaaGreatDoor
set_option linter.unusedVariables false
set_option linter.unusedSimpArgs false
namespace Go.Proofs.YtjmcokcdaddpcaaGreatDoor
open Go.RowKit
def evPtr (es : List Dsr.Ev) (a : SA) (n : List UInt8) : Value := if n ∈ nms es then ptr (ebOf (nms es) a.eb n) else .pointer none
theorem own_someS {w : World} {B : Nat} {e : TypeId} {m n c : Nat} {a : Option Addr} {xs : List Value} (h : w.ownsRow B e m (.slice a n c) n xs) (hn : 0 < n) : ∃ g, a = some ⟨g, 0, none⟩ ∧ n ≤ c ∧ c ≤ maxLen := by
  rcases h.2 with ⟨_, h1⟩ | ⟨g, c', cur, h1, _, h2, h3, h4, _⟩
  · omega
  · injection h1 with h1 h5 h6
    subst h6
    exact ⟨g, h1, h3, h4⟩
section
variable {N : Nat} {w : World} {es : List Dsr.Ev} {rs : List Dsr.Rl} {a : SA}
theorem StAt.shapes (h : StAt N w es rs a) : ∃ ae ce ar cr, a.ve = .slice ae es.length ce ∧ a.vr = .slice ar rs.length cr := by
  have h0 : w.ownsRow N 175 1 a.ve es.length (a.eb.map ptr) := h.rows.own ⟨a.ve, 175, 1, es.length, a.eb.map ptr⟩ (by simp [stRows])
  have h1 : w.ownsRow N 180 3 a.vr rs.length (rs.flatMap (ruS (nms es) a.eb)) := h.rows.own ⟨a.vr, 180, 3, rs.length, rs.flatMap (ruS (nms es) a.eb)⟩ (by simp [stRows])
  obtain ⟨ae, ce, e0⟩ := owned_shape h0
  obtain ⟨ar, cr, e1⟩ := owned_shape h1
  exact ⟨ae, ce, ar, cr, e0, e1⟩
theorem StAt.own0 (h : StAt N w es rs a) : w.ownsRow N 175 1 a.ve es.length (a.eb.map ptr) := h.rows.own ⟨a.ve, 175, 1, es.length, a.eb.map ptr⟩ (by simp [stRows])
theorem StAt.own1 (h : StAt N w es rs a) : w.ownsRow N 180 3 a.vr rs.length (rs.flatMap (ruS (nms es) a.eb)) := h.rows.own ⟨a.vr, 180, 3, rs.length, rs.flatMap (ruS (nms es) a.eb)⟩ (by simp [stRows])
/-- The pointer number i, and the cells that it points to. -/
theorem StAt.evAt (h : StAt N w es rs a) {ae : Option Addr} {ce : Nat} (hv : a.ve = .slice ae es.length ce) {i : Nat} {e : Dsr.Ev} (he : es[i]? = some e) :
    ∃ g b v, ae = some ⟨g, 0, none⟩ ∧ es.length ≤ ce ∧ ce ≤ maxLen ∧ a.eb[i]? = some b ∧ a.rv[i]? = some v ∧ w.cell? ⟨g, i, none⟩ = some (ptr b) ∧ b < w.heap.size ∧ w.heap[b]? = some (evB e v) := by
  have hi : i < es.length := (List.getElem?_eq_some_iff.1 he).1
  have h0 := h.own0
  rw [hv] at h0
  obtain ⟨g, rfl, h1, h2⟩ := own_someS h0 (by omega)
  have hb : a.eb[i]? = some (a.eb[i]'(by rw [h.len]; exact hi)) := List.getElem?_eq_getElem _
  have hvv : a.rv[i]? = some (a.rv[i]'(by rw [h.rlen]; exact hi)) := List.getElem?_eq_getElem _
  refine ⟨g, _, _, rfl, h1, h2, hb, hvv, own_cellS h0 (by rw [List.getElem?_map, hb]; rfl), (h.ebLt (List.mem_of_getElem? hb)).2, h.ev _ _ _ _ he hb hvv⟩
theorem evB_cells {b : Nat} {e : Dsr.Ev} {v : Value} (h : w.heap[b]? = some (evB e v)) : w.cell? ⟨b, 0, none⟩ = some (strV e.name) ∧ w.cell? ⟨b, 1, none⟩ = some v ∧ w.cell? ⟨b, 2, none⟩ = some (.bool e.done) ∧ w.cell? ⟨b, 3, none⟩ = some (.bool e.inn) ∧ w.cell? ⟨b, 4, none⟩ = some (.bool e.due) ∧ ∀ o, w.frozen? ⟨b, o, none⟩ = false := by
  refine ⟨?_, ?_, ?_, ?_, ?_, fun o => ?_⟩ <;> simp [World.cell?, World.frozen?, h, evB]
theorem names_snoc {n : List UInt8} {i : Nat} {e : Dsr.Ev} (he : es[i]? = some e) (hn : e.name ≠ n) (h : n ∉ nms (es.take i)) : n ∉ nms (es.take (i + 1)) := by
  rw [List.take_add_one, he]
  simp only [nms, List.map_append, List.mem_append, not_or]
  exact ⟨h, by simp; exact fun e => hn e.symm⟩
set_option maxRecDepth 100000 in
set_option maxHeartbeats 1600000 in
theorem find_any (h : StAt N w es rs a) (hg : GOk es rs) (n : List UInt8) :
    Calls Tryz.prog 85 #[ptr a.sb, strV n] w fun x w' => x = .returned (evPtr es a n) ∧ Below w.heap.size w w' := by
  obtain ⟨ae, ce, ar, cr, hve, hvr⟩ := h.shapes
  have hblk := h.blk
  rw [hve, hvr] at hblk
  obtain ⟨c0, c1, fz⟩ := cells2 hblk
  have H : Hid (StAt N w es rs a ∧ a.ve = .slice ae es.length ce ∧ GOk es rs) := ⟨h, hve, hg⟩
  have hz : (es.length : Int) ≤ 1000 := by have := hg.esl; omega
  have hsb := h.sbLt.2
  clear h hg hve hvr hblk
  go_enter Tryz.func85, Tryz.ntmps85
  go_wp2_with fail
  go_loopg [12] es.length (fun k i wr => ∃ m : Nat, i = .int .i64 m ∧ m + k = es.length ∧ n ∉ nms (es.take m) ∧ Below w.heap.size w wr)
  case atStart => exact ⟨0, rfl, by omega, by simp [nms], Below.refl _ _⟩
  case round =>
    obtain ⟨m, rfl, hm, hnn, hb⟩ := hrel
    by_cases hlt : m < es.length
    · obtain ⟨e, he⟩ : ∃ e, es[m]? = some e := ⟨_, List.getElem?_eq_getElem hlt⟩
      obtain ⟨g, b, v, rfl, h1, h2, hb1, hv1, d0, hbl, hbk⟩ := (H.out.1.below hb).evAt H.out.2.1 he
      obtain ⟨e0, e1, e2, e3, e4, ef⟩ := evB_cells hbk
      have HH : Hid (es[m]? = some e ∧ a.eb[m]? = some b ∧ n ∉ nms (es.take m) ∧ Below w.heap.size w wr) := ⟨he, hb1, hnn, hb⟩
      clear hb hnn he hb1 hv1 hbk e1 e2 e3 e4
      by_cases hen : e.name = n
      · have HE : Hid (e.name = n) := hen
        rw [hen] at e0
        clear hen
        go_wp2_with fail
        go_ret
        refine ⟨?_, HH.out.2.2.2⟩
        have hmem : n ∈ nms es := List.mem_map.2 ⟨e, List.mem_of_getElem? HH.out.1, HE.out⟩
        unfold evPtr
        rw [if_pos hmem]
        unfold ebOf
        rw [idx_of H.out.2.2.nodup HH.out.1 HE.out, List.getD_eq_getElem?_getD, HH.out.2.1]
        rfl
      · have HE : Hid (¬ e.name = n) := hen
        have hs : (e.name == n) = false := by simpa using hen
        clear hen
        go_wp2_with fail
        go_roundg (es.length - (m + 1))
        case measure => omega
        case rel => exact ⟨m + 1, by go_num, by omega, names_snoc HH.out.1 HE.out HH.out.2.2.1, HH.out.2.2.2⟩
    · have HH : Hid (n ∉ nms es ∧ Below w.heap.size w wr) := ⟨by rw [List.take_of_length_le (by omega)] at hnn; exact hnn, hb⟩
      clear hb hnn
      go_wp2_with fail
      go_ret
      exact ⟨by unfold evPtr; rw [if_neg HH.out.1]; rfl, HH.out.2⟩
end
end Go.Proofs.YtjmcokcdaddpcaaGreatDoor
set_option linter.unusedVariables false
set_option linter.unusedSimpArgs false
namespace Go.Proofs.YtjmcokcdaddpcaaGreatDoor
open Go.RowKit
theorem contains_snoc {ts : List (List UInt8)} {x t : List UInt8} {i : Nat} (h : ts[i]? = some t) (hx : ¬ x = t) (hc : (ts.take i).contains x = false) : (ts.take (i + 1)).contains x = false := by
  rw [List.take_add_one, h]
  simp only [List.contains_eq_mem, decide_eq_false_iff_not, List.mem_append, not_or] at hc ⊢
  exact ⟨hc, by simp; exact hx⟩
set_option maxRecDepth 100000 in
set_option maxHeartbeats 1600000 in
theorem slIndex_any {w : World} {B : Nat} {v : Value} (ts : List (List UInt8)) (h : w.ownsRow B 9 1 v ts.length (ts.map strV)) (hl : ts.length ≤ 1000) (x : List UInt8) :
    Calls Tryz.prog 131 #[v, strV x] w fun y w' => (∃ i : Int, y = .returned (.int .i64 i) ∧ decide (0 ≤ i) = ts.contains x) ∧ Below w.heap.size w w' := by
  obtain ⟨va, vc, rfl⟩ := owned_shape h
  have H : Hid (w.ownsRow B 9 1 (.slice va ts.length vc) ts.length (ts.map strV)) := h
  have hz : (ts.length : Int) ≤ 1000 := by omega
  clear h
  go_enter Tryz.func131, Tryz.ntmps131
  go_wp2_with fail
  go_loopg [8] ts.length (fun k i wr => ∃ m : Nat, i = .int .i64 m ∧ m + k = ts.length ∧ (ts.take m).contains x = false ∧ Below w.heap.size w wr)
  case atStart => exact ⟨0, rfl, by omega, rfl, Below.refl _ _⟩
  case round =>
    obtain ⟨m, rfl, hm, hnn, hb⟩ := hrel
    by_cases hlt : m < ts.length
    · obtain ⟨t, ht⟩ : ∃ t, ts[m]? = some t := ⟨_, List.getElem?_eq_getElem hlt⟩
      obtain ⟨g, rfl, h1, h2⟩ := own_someS H.out (by omega)
      have d0 : wr.cell? ⟨g, m, none⟩ = some (strV t) := by
        have c := own_cellS H.out (j := m) (u := strV t) (by rw [List.getElem?_map, ht]; rfl)
        rw [hb.cell (World.block_lt_of_cell? _ _ c)]
        exact c
      have HH : Hid (ts[m]? = some t ∧ (ts.take m).contains x = false ∧ Below w.heap.size w wr) := ⟨ht, hnn, hb⟩
      clear hb hnn ht
      by_cases hen : x = t
      · subst hen
        go_wp2_with fail
        go_ret
        exact ⟨⟨m, rfl, by rw [List.contains_iff_mem.2 (List.mem_of_getElem? HH.out.1)]; simp⟩, HH.out.2.2⟩
      · have HE : Hid (¬ x = t) := hen
        have hs : (x == t) = false := by simpa using hen
        clear hen
        go_wp2_with fail
        go_roundg (ts.length - (m + 1))
        case measure => omega
        case rel => exact ⟨m + 1, by go_num, by omega, contains_snoc HH.out.1 HE.out HH.out.2.1, HH.out.2.2⟩
    · have HH : Hid (ts.contains x = false ∧ Below w.heap.size w wr) := ⟨by rw [List.take_of_length_le (by omega)] at hnn; exact hnn, hb⟩
      clear hb hnn
      go_wp2_with fail
      go_ret
      exact ⟨⟨-1, rfl, by rw [HH.out.1]; rfl⟩, HH.out.2⟩
set_option maxRecDepth 100000 in
set_option maxHeartbeats 1600000 in
theorem slContains_any {w : World} {B : Nat} {v : Value} (ts : List (List UInt8)) (h : w.ownsRow B 9 1 v ts.length (ts.map strV)) (hl : ts.length ≤ 1000) (x : List UInt8) :
    Calls Tryz.prog 86 #[v, strV x] w fun y w' => y = .returned (.bool (ts.contains x)) ∧ Below w.heap.size w w' := by
  obtain ⟨va, vc, rfl⟩ := owned_shape h
  have H : Hid (w.ownsRow B 9 1 (.slice va ts.length vc) ts.length (ts.map strV)) := h
  clear h
  go_enter Tryz.func86, Tryz.ntmps86
  go_wp2_with fail
  refine (slIndex_any ts H.out hl x).mono ?_
  rintro e w1 ⟨⟨i, rfl, hi⟩, hb⟩
  have HB : Hid (Below w.heap.size w w1 ∧ decide (0 ≤ i) = ts.contains x) := ⟨hb, hi⟩
  clear hb hi
  go_wp2_with fail
  go_ret
  exact ⟨ret_bool (by rw [← HB.out.2]), HB.out.1⟩
section
variable {W : World} {b : Nat} {e : Dsr.Ev} {v : Value}
set_option maxRecDepth 100000 in
theorem evUndone_any (h : W.heap[b]? = some (evB e v)) : Calls Tryz.prog 173 #[ptr b] W fun x w' => x = .returned (.bool (e.inn && !e.done)) ∧ Below W.heap.size W w' := by
  have hlt : b < W.heap.size := (Array.getElem?_eq_some_iff.1 h).1
  obtain ⟨e0, e1, e2, e3, e4, ef⟩ := evB_cells h
  clear h
  obtain ⟨nm, ro, dn, i, du⟩ := e
  cases i <;> cases dn <;> (go_enter Tryz.func173, Tryz.ntmps173; go_wp2_with fail; go_ret; exact ⟨rfl, Below.refl _ _⟩)
set_option maxRecDepth 100000 in
theorem evWanted_any (h : W.heap[b]? = some (evB e v)) : Calls Tryz.prog 94 #[ptr b] W fun x w' => x = .returned (.bool (e.inn && e.due)) ∧ Below W.heap.size W w' := by
  have hlt : b < W.heap.size := (Array.getElem?_eq_some_iff.1 h).1
  obtain ⟨e0, e1, e2, e3, e4, ef⟩ := evB_cells h
  clear h
  obtain ⟨nm, ro, dn, i, du⟩ := e
  cases i <;> cases du <;> (go_enter Tryz.func94, Tryz.ntmps94; go_wp2_with fail; go_ret; exact ⟨rfl, Below.refl _ _⟩)
set_option maxRecDepth 100000 in
theorem evHarmless_any : Calls Tryz.prog 174 #[ptr b] W fun x w' => x = .returned (.bool false) ∧ Below W.heap.size W w' := by
  go_enter Tryz.func174, Tryz.ntmps174
  go_wp2_with fail
  go_ret
  exact ⟨rfl, Below.refl _ _⟩
end
end Go.Proofs.YtjmcokcdaddpcaaGreatDoor
