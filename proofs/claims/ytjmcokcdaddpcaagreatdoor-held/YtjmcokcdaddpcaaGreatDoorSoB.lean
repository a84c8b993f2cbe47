import Derived.Test.YtjmcokcdaddpcaaGreatDoorSoA
import Derived.Test.YtjmcokcdaddpcaaGreatDoorUa
set_option linter.unusedVariables false
set_option linter.unusedSimpArgs false
namespace Go.Proofs.YtjmcokcdaddpcaaGreatDoor
open Go.RowKit
theorem cmpS_eq : ∀ a b : List UInt8, cmpS a b = Dsr.cmpB a b := by
  intro a b
  unfold cmpS
  induction a generalizing b with
  | nil => cases b <;> rfl
  | cons x a ih =>
    cases b with
    | nil => rfl
    | cons y b => rw [Lib.compareBytes, Dsr.cmpB, ih b]
/-- An event, and where its roles lie. -/
abbrev EvS := Dsr.Ev × (Option Addr × Nat × Nat)
def slV (p : Option Addr × Nat × Nat) : Value := .slice p.1 p.2.1 p.2.2
def encE (p : EvS) : List Value := evC p.1 (slV p.2)
def cfE (x y : EvS) : Int := cmpS x.1.name y.1.name
theorem grow2 (w : World) (o o' : Obj) : (w.alloc o).alloc o' = Sort.grow (w.drewN 0) #[o, o'] := by
  rw [Sort.alloc_eq_grow, Sort.alloc_eq_grow, Sort.grow_grow]; rfl
theorem swoE : Sort.SWO (ltOf cfE) where
  irrefl x := by simp [ltOf, cfE, cmpS_eq, Dsr.cmpB_refl]
  trans x y z h1 h2 := by
    simp only [ltOf, cfE, cmpS_eq, decide_eq_true_eq] at *
    exact Dsr.cmpB_trans _ _ _ h1 h2
  ntrans x y z h1 h2 := by
    simp only [ltOf, cfE, cmpS_eq, decide_eq_false_iff_not] at *
    exact Dsr.cmpB_ntrans _ _ _ h1 h2
theorem or3_neg (a b c : Int) : or3 a b c < 0 ↔ a < 0 ∨ (a = 0 ∧ (b < 0 ∨ (b = 0 ∧ c < 0))) := by
  unfold or3
  by_cases ha : a = 0
  · by_cases hb : b = 0
    · simp [ha, hb]
    · simp [ha, hb]
  · simp [ha]
theorem cmpNat_neg (a b : Nat) : cmpNat a b < 0 ↔ a < b := by
  unfold cmpNat
  split
  · rename_i h; constructor <;> intros <;> first | exact h | decide
  · split
    · rename_i h h'; constructor
      · intro hh; exact absurd hh (by decide)
      · intro hh; omega
    · rename_i h h'; constructor
      · intro hh; exact absurd hh (by decide)
      · intro hh; omega
theorem cmpNat_zero (a b : Nat) : cmpNat a b = 0 ↔ a = b := by
  unfold cmpNat
  split
  · rename_i h; constructor
    · intro hh; exact absurd hh (by decide)
    · intro hh; omega
  · split
    · rename_i h h'; constructor
      · intro hh; exact absurd hh (by decide)
      · intro hh; omega
    · rename_i h h'; constructor
      · intro _; omega
      · intro _; rfl
/-- One rule ahead of another. -/
def ltR (a b : Dsr.Rl) : Prop := Dsr.cmpB a.left b.left < 0 ∨ (a.left = b.left ∧ (Dsr.cmpB a.right b.right < 0 ∨ (a.right = b.right ∧ a.kind < b.kind)))
theorem cmpB_zero (a b : List UInt8) : Dsr.cmpB a b = 0 ↔ a = b := ⟨Dsr.cmpB_eq, fun h => by subst h; exact Dsr.cmpB_refl _⟩
theorem cmpRl_neg (a b : Dsr.Rl) : cmpRl a b < 0 ↔ ltR a b := by
  unfold cmpRl ltR
  rw [or3_neg, cmpNat_neg, cmpS_eq, cmpS_eq, cmpB_zero, cmpB_zero]
theorem ltR_irr (a : Dsr.Rl) : ¬ ltR a a := by
  unfold ltR
  rw [Dsr.cmpB_refl, Dsr.cmpB_refl]
  omega
theorem ltR_tri (a b : Dsr.Rl) : ltR a b ∨ a = b ∨ ltR b a := by
  unfold ltR
  have e1 := Dsr.cmpB_swap a.left b.left
  have e2 := Dsr.cmpB_swap a.right b.right
  by_cases h1 : Dsr.cmpB a.left b.left < 0
  · exact .inl (.inl h1)
  · by_cases h2 : Dsr.cmpB b.left a.left < 0
    · exact .inr (.inr (.inl h2))
    · have h3 := Dsr.cmpB_eq (a := a.left) (b := b.left) (by omega)
      by_cases h4 : Dsr.cmpB a.right b.right < 0
      · exact .inl (.inr ⟨h3, .inl h4⟩)
      · by_cases h5 : Dsr.cmpB b.right a.right < 0
        · exact .inr (.inr (.inr ⟨h3.symm, .inl h5⟩))
        · have h6 := Dsr.cmpB_eq (a := a.right) (b := b.right) (by omega)
          rcases Nat.lt_trichotomy a.kind b.kind with h | h | h
          · exact .inl (.inr ⟨h3, .inr ⟨h6, h⟩⟩)
          · right; left
            obtain ⟨l, r, k⟩ := a
            obtain ⟨l', r', k'⟩ := b
            simp only at h3 h6 h
            subst h3 h6 h; rfl
          · exact .inr (.inr (.inr ⟨h3.symm, .inr ⟨h6.symm, h⟩⟩))
theorem ltR_trans (a b c : Dsr.Rl) (h : ltR a b) (h' : ltR b c) : ltR a c := by
  unfold ltR at *
  rcases h with h | ⟨h, h2⟩
  · rcases h' with h' | ⟨h', _⟩
    · exact .inl (Dsr.cmpB_trans _ _ _ h h')
    · left; rw [← h']; exact h
  · rcases h' with h' | ⟨h', h2'⟩
    · left; rw [h]; exact h'
    · right
      refine ⟨h.trans h', ?_⟩
      rcases h2 with h2 | ⟨h2, h3⟩
      · rcases h2' with h2' | ⟨h2', _⟩
        · exact .inl (Dsr.cmpB_trans _ _ _ h2 h2')
        · left; rw [← h2']; exact h2
      · rcases h2' with h2' | ⟨h2', h3'⟩
        · left; rw [h2]; exact h2'
        · exact .inr ⟨h2.trans h2', by omega⟩
theorem ltR_asym (a b : Dsr.Rl) (h : ltR a b) : ¬ ltR b a := fun h' => ltR_irr a (ltR_trans a b a h h')
theorem swoR : Sort.SWO (ltOf cmpRl) where
  irrefl x := by simp only [ltOf, decide_eq_false_iff_not, cmpRl_neg]; exact ltR_irr x
  trans x y z h1 h2 := by
    simp only [ltOf, cmpRl_neg, decide_eq_true_eq] at *
    exact ltR_trans _ _ _ h1 h2
  ntrans x y z h1 h2 := by
    simp only [ltOf, cmpRl_neg, decide_eq_false_iff_not] at *
    intro h3
    rcases ltR_tri x y with h | h | h
    · exact h1 h
    · subst h; exact h2 h3
    · rcases ltR_tri y z with h' | h' | h'
      · exact h2 h'
      · subst h'; exact h1 h3
      · exact ltR_asym _ _ h3 (ltR_trans _ _ _ h' h)
theorem sortEvents_any {B : Nat} {w : World} {v : Value} (ps : List EvS) (h : w.ownsRow B 144 5 v ps.length (ps.flatMap encE)) (hz : ps.length < 4611686018427387904) :
    Calls Tryz.prog 103 #[v, .func (.func 104) #[] #[]] w fun e w' => e = .returned (.tuple #[]) ∧ ∃ ps' : List EvS, ps'.Perm ps ∧ ps'.Pairwise (fun a b => ¬ cfE b a < 0) ∧ w'.ownsRow B 144 5 v ps'.length (ps'.flatMap encE) ∧ w.grownBy w' v.ownBlock := by
  haveI : Inhabited EvS := ⟨(⟨[], [], false, false, false⟩, none, 0, 0)⟩
  rcases h.2 with ⟨rfl, h0⟩ | ⟨g, cap, cur, rfl, hB, hb, h1, h2, h3, h4⟩
  · have e0 : ps = [] := List.eq_nil_of_length_eq_zero h0
    subst e0
    have hc := AnyF.slices_SortFunc_none Tryz.sortEv none 0 (.func (.func 104) #[] #[]) w
    refine Calls.mono hc ?_
    rintro e w' ⟨he, rfl⟩
    exact ⟨he, [], List.Perm.refl _, List.Pairwise.nil, World.ownsRow_nil _ _ _ _, World.grownBy.refl _ _⟩
  · have eg : ∀ args w, (callFunc 104 args).run Tryz.prog w = .ok (.enter 104 args) w := enters_of Tryz.func104 (by kernel_rfl) rfl
    have hg : g < w.heap.size := (Array.getElem?_eq_some_iff.1 hb).1
    have hc := AnyQ.slices_SortFunc Tryz.sortEv 5 Tryz.isAgg144 Tryz.sizeOf144 encE (fun _ => rfl) (fun x v hv => one_ev x.1 (slV x.2) rfl v hv) cfE swoE 104 #[] g 0 cap ps.toArray w eg (fun m os dk _ x y => (byName_any x.1 y.1 (slV x.2) (slV y.2) ⟨_, _, _, rfl⟩ ⟨_, _, _, rfl⟩ _).mono fun e w' he => ⟨he.1, 0, _, he.2.trans (grow2 _ _ _)⟩) (holdsK_of encE (fun _ => rfl) ps rfl hb h4) hg (by simpa using hz)
    have e1 : ps.toArray.size = ps.length := by simp
    rw [e1] at hc
    refine Calls.mono hc ?_
    rintro e w' ⟨he, d', m, os, hp, hs, rfl⟩
    have hsz : d'.size = ps.length := by rw [hp.1]; simp
    refine ⟨he, d'.toList, ?_, ?_, ?_, grown_sortK encE d'⟩
    · have := hp.2.2
      rw [← hsz, Array.extract_size] at this
      rw [hsz] at this
      have e2 : ps.toArray.extract 0 ps.length = ps.toArray := by rw [← e1, Array.extract_size]
      rw [e2] at this
      exact this
    · rw [List.pairwise_iff_getElem]
      intro i j hi hj hij
      have hi' : i < d'.size := by simpa using hi
      have hj' : j < d'.size := by simpa using hj
      have := hs i j (Nat.zero_le _) hij (by rw [← hsz]; exact hj')
      rw [getElem!_pos d' i hi', getElem!_pos d' j hj'] at this
      simpa [ltOf] using this
    · have e3 : d'.toList.length = ps.length := by simp [hsz]
      rw [e3]
      exact owns_sortK encE (fun _ => rfl) d' hsz hB hb h1 h2 h3
theorem sortRules_any {B : Nat} {w : World} {v : Value} (ps : List Dsr.Rl) (h : w.ownsRow B 150 3 v ps.length (ps.flatMap rlC)) (hz : ps.length < 4611686018427387904) :
    Calls Tryz.prog 107 #[v, .func (.func 108) #[] #[]] w fun e w' => e = .returned (.tuple #[]) ∧ ∃ ps' : List Dsr.Rl, ps'.Perm ps ∧ ps'.Pairwise (fun a b => ¬ cmpRl b a < 0) ∧ w'.ownsRow B 150 3 v ps'.length (ps'.flatMap rlC) ∧ w.grownBy w' v.ownBlock := by
  haveI : Inhabited Dsr.Rl := ⟨⟨[], [], 0⟩⟩
  rcases h.2 with ⟨rfl, h0⟩ | ⟨g, cap, cur, rfl, hB, hb, h1, h2, h3, h4⟩
  · have e0 : ps = [] := List.eq_nil_of_length_eq_zero h0
    subst e0
    have hc := AnyF.slices_SortFunc_none Tryz.sortRu none 0 (.func (.func 108) #[] #[]) w
    refine Calls.mono hc ?_
    rintro e w' ⟨he, rfl⟩
    exact ⟨he, [], List.Perm.refl _, List.Pairwise.nil, World.ownsRow_nil _ _ _ _, World.grownBy.refl _ _⟩
  · have eg : ∀ args w, (callFunc 108 args).run Tryz.prog w = .ok (.enter 108 args) w := enters_of Tryz.func108 (by kernel_rfl) rfl
    have hg : g < w.heap.size := (Array.getElem?_eq_some_iff.1 hb).1
    have hc := AnyQ.slices_SortFunc Tryz.sortRu 3 Tryz.isAgg150 Tryz.sizeOf150 rlC (fun _ => rfl) (fun x v hv => one_rl x v hv) cmpRl swoR 108 #[] g 0 cap ps.toArray w eg (fun m os dk _ x y => compareRules_any x y _) (holdsK_of rlC (fun _ => rfl) ps rfl hb h4) hg (by simpa using hz)
    have e1 : ps.toArray.size = ps.length := by simp
    rw [e1] at hc
    refine Calls.mono hc ?_
    rintro e w' ⟨he, d', m, os, hp, hs, rfl⟩
    have hsz : d'.size = ps.length := by rw [hp.1]; simp
    refine ⟨he, d'.toList, ?_, ?_, ?_, grown_sortK rlC d'⟩
    · have := hp.2.2
      rw [← hsz, Array.extract_size] at this
      rw [hsz] at this
      have e2 : ps.toArray.extract 0 ps.length = ps.toArray := by rw [← e1, Array.extract_size]
      rw [e2] at this
      exact this
    · rw [List.pairwise_iff_getElem]
      intro i j hi hj hij
      have hi' : i < d'.size := by simpa using hi
      have hj' : j < d'.size := by simpa using hj
      have := hs i j (Nat.zero_le _) hij (by rw [← hsz]; exact hj')
      rw [getElem!_pos d' i hi', getElem!_pos d' j hj'] at this
      simpa [ltOf] using this
    · have e3 : d'.toList.length = ps.length := by simp [hsz]
      rw [e3]
      exact owns_sortK rlC (fun _ => rfl) d' hsz hB hb h1 h2 h3
theorem sortStrings_any {B : Nat} {w : World} {v : Value} (ss : List (List UInt8)) (h : w.ownsRow B 9 1 v ss.length (ss.map strV)) (hz : ss.length < 4611686018427387904) :
    Calls Tryz.prog 106 #[v] w fun e w' => e = .returned (.tuple #[]) ∧ w'.ownsRow B 9 1 v ss.length ((ss.mergeSort fun x y => decide (x ≤ y)).map strV) ∧ w.grownBy w' v.ownBlock := by
  rcases h.2 with ⟨rfl, h0⟩ | ⟨g, cap, cur, rfl, hB, hb, h1, h2, h3, h4⟩
  · have e0 : ss = [] := List.eq_nil_of_length_eq_zero h0
    subst e0
    refine (Tryz.slices_Sort_string_none none 0 w).mono ?_
    rintro e w' ⟨he, rfl⟩
    exact ⟨he, by simpa using World.ownsRow_nil _ _ _ _, World.grownBy.refl _ _⟩
  · have hg : g < w.heap.size := (Array.getElem?_eq_some_iff.1 hb).1
    refine (Tryz.slices_Sort_string g 0 cap ss w (holds_of_block hb (by simpa using h4)) hg hz).mono ?_
    rintro e w' ⟨he, n, os, rfl⟩
    exact ⟨he, ownsRow_sorted (by simp) hB hb h1 h2 h3, grownBy_sorted _⟩
end Go.Proofs.YtjmcokcdaddpcaaGreatDoor
