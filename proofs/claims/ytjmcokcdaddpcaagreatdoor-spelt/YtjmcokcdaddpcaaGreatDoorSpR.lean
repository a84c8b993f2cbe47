import Derived.Test.YtjmcokcdaddpcaaGreatDoorReC
import Derived.Test.YtjmcokcdaddpcaaGreatDoorSpC
import Derived.Test.YtjmcokcdaddpcaaGreatDoorSpQ
set_option linter.unusedVariables false
set_option linter.unusedSimpArgs false
namespace Go.Proofs.YtjmcokcdaddpcaaGreatDoor
open Go.RowKit
/-- A graph's order is one. -/
theorem ord_one {r : Dsr.Rd} {es : List Dsr.Ev} {rs : List Dsr.Rl} (h : OrdG r es rs) {ce : List Dsr.Ev} {cr : List Dsr.Rl} (hpe : ce.Perm r.events) (hse : ce.Pairwise (fun a b => 0 ≤ Dsr.cmpB b.name a.name))
    (hnd : ∀ a ∈ r.events, ∀ b ∈ r.events, a.name = b.name → a = b) (hpr : cr.Perm r.rules) (hsr : cr.Pairwise (fun a b => 0 ≤ cmpRl b a)) :
    es = ce.map (fun e => { e with roles := e.roles.mergeSort fun x y => decide (x ≤ y) }) ∧ rs = Dsr.compact eqRl cr := by
  obtain ⟨es0, rs0, h1, h2, rfl, h4, h5, rfl⟩ := h
  have e1 : es0 = ce := List.Perm.eq_of_pairwise (le := fun a b : Dsr.Ev => 0 ≤ Dsr.cmpB b.name a.name) (fun a b ha hb hab hba => by
    have := Dsr.cmpB_swap a.name b.name
    exact hnd a (h1.mem_iff.1 ha) b (hpe.mem_iff.1 hb) (Dsr.cmpB_eq (by omega))) h2 hse (h1.trans hpe.symm)
  have e2 : rs0 = cr := List.Perm.eq_of_pairwise (le := fun a b : Dsr.Rl => 0 ≤ cmpRl b a) (fun a b ha hb hab hba => by
    rcases ltR_tri a b with h | h | h
    · have := (cmpRl_neg a b).2 h; omega
    · exact h
    · have := (cmpRl_neg b a).2 h; omega) h5 hsr (h4.trans hpr.symm)
  rw [e1, e2]
  exact ⟨rfl, rfl⟩
def wantT : List UInt8 := [101, 118, 101, 110, 116, 32, 102, 105, 108, 101, 32, 98, 121, 32, 98, 111, 115, 115, 44, 32, 99, 108, 101, 114, 107, 32, 100, 117, 101, 59, 10, 101, 118, 101, 110, 116, 32, 115, 105, 103, 110, 32, 98, 121, 32, 98, 111, 115, 115, 32, 111, 117, 116, 32, 100, 111, 110, 101, 59, 10, 102, 105, 108, 101, 32, 45, 62, 42, 32, 115, 105, 103, 110, 59, 10, 102, 105, 108, 101, 32, 45, 62, 43, 32, 115, 105, 103, 110, 59, 10, 115, 105, 103, 110, 32, 42, 45, 62, 32, 102, 105, 108, 101, 59, 10, 115, 105, 103, 110, 32, 45, 62, 60, 62, 32, 115, 105, 103, 110, 59, 10]
theorem want_short : ¬ 400 < wantT.length := by decide +kernel
theorem sort_cb : ([[99, 108, 101, 114, 107], [98, 111, 115, 115]] : List (List UInt8)).mergeSort (fun x y => decide (x ≤ y)) = [[98, 111, 115, 115], [99, 108, 101, 114, 107]] := by
  simp [List.mergeSort, List.MergeSort.Internal.splitInTwo, List.merge]
  decide
theorem sort_bc : ([[98, 111, 115, 115], [99, 108, 101, 114, 107]] : List (List UInt8)).mergeSort (fun x y => decide (x ≤ y)) = [[98, 111, 115, 115], [99, 108, 101, 114, 107]] := by
  simp [List.mergeSort, List.MergeSort.Internal.splitInTwo, List.merge]
  decide
theorem sorted_rules : [Dsr.ru2, Dsr.ru1, Dsr.ru1, Dsr.ru3, Dsr.ru5].Pairwise (fun a b => 0 ≤ cmpRl b a) := by
  simp [List.pairwise_cons, cmpRl, or3, cmpS_eq]
  decide
theorem nd_fs {r : Dsr.Rd} {F S : Dsr.Ev} (h : [F, S].Perm r.events) (hn : F.name ≠ S.name) : ∀ a ∈ r.events, ∀ b ∈ r.events, a.name = b.name → a = b := by
  intro a ha b hb e
  have ha := h.mem_iff.2 ha
  have hb := h.mem_iff.2 hb
  simp at ha hb
  rcases ha with rfl | rfl <;> rcases hb with rfl | rfl
  · rfl
  · exact absurd e hn
  · exact absurd e.symm hn
  · rfl
theorem text_want : Dsr.text ([Dsr.evF, Dsr.evS].map (fun e => { e with roles := e.roles.mergeSort fun x y => decide (x ≤ y) })) (Dsr.compact eqRl [Dsr.ru2, Dsr.ru1, Dsr.ru1, Dsr.ru3, Dsr.ru5]) = wantT := by
  simp only [List.map_cons, List.map_nil, Dsr.evF, Dsr.evS]
  rw [sort_cb, List.mergeSort_singleton]
  decide
theorem sorted_evs : [Dsr.evF, Dsr.evS].Pairwise (fun a b => 0 ≤ Dsr.cmpB b.name a.name) := by
  simp only [List.pairwise_cons]
  decide
/-- What a good text of the spelt graph is printed as. -/
theorem print_good {g : Nat → List UInt8} (hg : ∀ n, (g n).length ≤ 2 ∧ ∀ c ∈ g n, Dsr.blank c = true) {turn : Nat} (ht : turn < 7) {out : List UInt8} {fe fa : Nat} (h : PrintP (Dsr.spAll g (-1) turn 7).s out fe fa) : out = wantT ∧ fe = 0 ∧ fa = 0 := by
  obtain ⟨p, hp⟩ := Dsr.good_read (fun n => (hg n).2) turn
  have hl : (Dsr.spAll g (-1) turn 7).s.length ≤ 400 := by
    have h1 := Dsr.all_fit (fun n => (hg n).1) (bad := -1) (turn := turn) 7
    have h2 := h1.1.1
    have h3 : (Dsr.spAll g (-1) turn 7).n = 35 := by
      rw [Dsr.spAll_eq, (Dsr.line_fit (fun n => (hg n).1) (bad := -1) (Dsr.allT turn) ⟨[], 0, 0, false⟩ (fun w hw => by
        obtain ⟨i, _, hi⟩ := List.mem_flatMap.1 hw
        exact ((Dsr.line_ok _ (Nat.mod_lt _ (by decide))).2.2 w hi).1) ⟨Nat.zero_le _, Nat.le_refl _⟩).2, Dsr.allT_len turn ht]
    omega
  have he : errOf (Dsr.spAll g (-1) turn 7).s = none := by
    unfold errOf
    rw [if_neg (by omega), hp, Dsr.good_err _ p turn ht, if_neg (by simp), Dsr.good_name _ p turn ht]
    rfl
  have hpm := Dsr.good_perm (Dsr.spAll g (-1) turn 7).s.length p turn ht
  rw [← hp] at hpm
  have key : ∀ es rs, OrdG (Dsr.readR (Dsr.spAll g (-1) turn 7).s) es rs → Dsr.text es rs = wantT := by
    intro es rs ho
    obtain ⟨e1, e2⟩ := ord_one ho hpm.1 sorted_evs (nd_fs hpm.1 (by decide)) hpm.2 sorted_rules
    rw [e1, e2]
    exact text_want
  rcases h with ⟨h1, _⟩ | ⟨_, es, rs, ho, ⟨h1, _⟩ | ⟨_, h2, h3, h4⟩⟩
  · rw [he] at h1; cases h1
  · rw [key es rs ho] at h1
    exact absurd h1 want_short
  · exact ⟨h4.trans (key es rs ho), h2, h3⟩
theorem want_read : (Dsr.readR wantT).fErr = 0 ∧ Dsr.wrongName (Dsr.readR wantT).uses = none ∧ (Dsr.readR wantT).events = [{ Dsr.evF with roles := [[98, 111, 115, 115], [99, 108, 101, 114, 107]] }, Dsr.evS] ∧ (Dsr.readR wantT).rules = [Dsr.ru2, Dsr.ru1, Dsr.ru3, Dsr.ru5] := by
  refine ⟨?_, ?_, ?_, ?_⟩
  · kernel_rfl
  · kernel_rfl
  · kernel_rfl
  · kernel_rfl
theorem sorted_rules4 : [Dsr.ru2, Dsr.ru1, Dsr.ru3, Dsr.ru5].Pairwise (fun a b => 0 ≤ cmpRl b a) := by
  simp [List.pairwise_cons, cmpRl, or3, cmpS_eq]
  decide
theorem text_want4 : Dsr.text ([{ Dsr.evF with roles := [[98, 111, 115, 115], [99, 108, 101, 114, 107]] }, Dsr.evS].map (fun e => { e with roles := e.roles.mergeSort fun x y => decide (x ≤ y) })) (Dsr.compact eqRl [Dsr.ru2, Dsr.ru1, Dsr.ru3, Dsr.ru5]) = wantT := by
  simp only [List.map_cons, List.map_nil, Dsr.evF, Dsr.evS]
  rw [sort_bc, List.mergeSort_singleton]
  decide
theorem print_want {out : List UInt8} {fe fa : Nat} (h : PrintP wantT out fe fa) : out = wantT ∧ fe = 0 ∧ fa = 0 := by
  obtain ⟨w1, w2, w3, w4⟩ := want_read
  have he : errOf wantT = none := by
    unfold errOf
    rw [if_neg want_short, w1, if_neg (by simp), w2]
    rfl
  have key : ∀ es rs, OrdG (Dsr.readR wantT) es rs → Dsr.text es rs = wantT := by
    intro es rs ho
    have hpe : [{ Dsr.evF with roles := [[98, 111, 115, 115], [99, 108, 101, 114, 107]] }, Dsr.evS].Perm (Dsr.readR wantT).events := by rw [w3]
    obtain ⟨e1, e2⟩ := ord_one ho hpe (by simp only [List.pairwise_cons]; decide) (nd_fs hpe (by decide)) (cr := [Dsr.ru2, Dsr.ru1, Dsr.ru3, Dsr.ru5]) (by rw [w4]) sorted_rules4
    rw [e1, e2]
    exact text_want4
  rcases h with ⟨h1, _⟩ | ⟨_, es, rs, ho, ⟨h1, _⟩ | ⟨_, h2, h3, h4⟩⟩
  · rw [he] at h1; cases h1
  · rw [key es rs ho] at h1
    exact absurd h1 want_short
  · exact ⟨h4.trans (key es rs ho), h2, h3⟩
theorem print_bad {g : Nat → List UInt8} (hg : ∀ n, (g n).length ≤ 2 ∧ ∀ c ∈ g n, Dsr.blank c = true) {turn bad : Nat} (ht : turn < 7) (hb : bad < 35) {out : List UInt8} {fe fa : Nat} (h : PrintP (Dsr.spAll g bad turn 7).s out fe fa) : out = [] ∧ fe = 2 ∧ fa = (Dsr.spAll g bad turn 7).at_ := by
  have hl : (Dsr.spAll g bad turn 7).s.length ≤ 400 := by
    have h1 := Dsr.all_fit (fun n => (hg n).1) (bad := bad) (turn := turn) 7
    have h2 := h1.1.1
    have h3 : (Dsr.spAll g bad turn 7).n = 35 := by
      rw [Dsr.spAll_eq, (Dsr.line_fit (fun n => (hg n).1) (bad := bad) (Dsr.allT turn) ⟨[], 0, 0, false⟩ (fun w hw => by
        obtain ⟨i, _, hi⟩ := List.mem_flatMap.1 hw
        exact ((Dsr.line_ok _ (Nat.mod_lt _ (by decide))).2.2 w hi).1) ⟨Nat.zero_le _, Nat.le_refl _⟩).2, Dsr.allT_len turn ht]
    omega
  obtain ⟨h1, h2⟩ := Dsr.bad_read (fun n => (hg n).2) turn bad ht hb
  have he : errOf (Dsr.spAll g bad turn 7).s = some (2, (Dsr.spAll g bad turn 7).at_) := by
    unfold errOf
    rw [if_neg (by omega), h1, h2, if_pos (by decide)]
  rcases h with ⟨h3, _, h5⟩ | ⟨h3, _⟩
  · rw [he] at h3
    cases h3
    exact ⟨h5, rfl, rfl⟩
  · rw [he] at h3; cases h3
end Go.Proofs.YtjmcokcdaddpcaaGreatDoor
