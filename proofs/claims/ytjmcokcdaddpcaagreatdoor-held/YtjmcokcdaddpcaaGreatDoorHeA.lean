import Derived.Test.YtjmcokcdaddpcaaGreatDoorUa
import Derived.Test.YtjmcokcdaddpcaaGreatDoorReC
import Derived.KernelRfl
set_option linter.unusedVariables false
set_option linter.unusedSimpArgs false
namespace Go.Proofs.YtjmcokcdaddpcaaGreatDoor
open Go.RowKit
/-- The graph of Held. -/
def hText (f : Bool) : List UInt8 :=
  [101, 118, 101, 110, 116, 32, 97, 32, 98, 121, 32, 114] ++ (if f then [32, 100, 117, 101] else []) ++ [59, 32, 101, 118, 101, 110, 116, 32, 98, 32, 98, 121, 32, 114, 59, 32, 101, 118, 101, 110, 116, 32, 99, 32, 98, 121, 32, 114, 59, 32, 97, 32, 45, 62, 60, 62, 32, 98, 59, 32, 99, 32, 42, 45, 62, 32, 97, 59]
def hE (due da db dc : Bool) : List Dsr.Ev := [⟨[97], [[114]], da, true, due⟩, ⟨[98], [[114]], db, true, false⟩, ⟨[99], [[114]], dc, true, false⟩]
def hR : List Dsr.Rl := [⟨[97], [98], 1⟩, ⟨[99], [97], 2⟩]
theorem h_ev : ∀ f, (Dsr.readR (hText f)).events = hE f false false false := by
  intro f; cases f <;> kernel_rfl
theorem h_ru : ∀ f, (Dsr.readR (hText f)).rules = hR := by
  intro f; cases f <;> kernel_rfl
theorem h_err : ∀ f, errOf (hText f) = none := by
  intro f; cases f <;> kernel_rfl
theorem h_len : ∀ f, decide ((Dsr.text (hE f false false false) hR).length ≤ 400) = true := by
  intro f; cases f <;> kernel_rfl
/-- Which event; the verdict; how the events stand behind it. -/
def hName (n : Nat) : List UInt8 := [UInt8.ofNat (97 + n)]
def hV (due : Bool) (n : Nat) : Nat := if n = 1 && due then 4 else 0
def hDue (due : Bool) (n : Nat) : Bool := if n = 0 then false else if n = 2 then true else due
theorem h_verdict (due da db dc : Bool) (n : Nat) (hn : n < 3) : Dsr.verdictP (hE due da db dc) hR [114] (hName n) = hV due n := by
  rcases n with _ | _ | _ | n
  · cases due <;> rfl
  · cases due <;> cases da <;> rfl
  · cases due <;> rfl
  · omega
theorem h_do (due da db dc : Bool) (n : Nat) (hn : n < 3) (h0 : hV due n = 0) : ∃ da' db' dc', Dsr.doP hR (hName n) (hE due da db dc) = hE (hDue due n) da' db' dc' := by
  rcases n with _ | _ | _ | n
  · exact ⟨true, db, dc, rfl⟩
  · cases due
    · exact ⟨da, true, dc, rfl⟩
    · simp [hV] at h0
  · exact ⟨da, db, true, rfl⟩
  · omega
theorem h_stay (due : Bool) (n : Nat) (hn : n < 3) (h0 : ¬ hV due n = 0) : hDue due n = due := by
  rcases n with _ | _ | _ | n
  · simp [hV] at h0
  · rfl
  · simp [hV] at h0
  · omega
/-- A case of Held, m requests behind its beginning. -/
structure HC (c : Dsr.Cs) (due : Bool) (m : Nat) : Prop where
  es : ∃ da db dc, c.es = hE due da db dc
  rs : c.rs = hR
  wait : c.wait = none
  len : c.len ≤ 408 + 18 * m
theorem hName_len (n : Nat) : (hName n).length = 1 := rfl
theorem h_step {c : Dsr.Cs} {due : Bool} {m n : Nat} (h : HC c due m) (hm : m < 60) (hn : n < 3) :
    (Dsr.askP c [114] (hName n)).1 = hV due n ∧ (Dsr.askP c [114] (hName n)).2.2.1 = 0 ∧ (Dsr.settleP (Dsr.askP c [114] (hName n)).2.2.2).1 = 0 ∧ HC (Dsr.settleP (Dsr.askP c [114] (hName n)).2.2.2).2 (hDue due n) (m + 1) := by
  obtain ⟨⟨da, db, dc, he⟩, hr, hw, hl⟩ := h
  have hv : Dsr.verdictP c.es c.rs [114] (hName n) = hV due n := by rw [he, hr]; exact h_verdict due da db dc n hn
  have hL : (Dsr.sealed (Dsr.recP c [114] (hName n))).length = 18 := by rw [Dsr.sealed_len, Dsr.recP, Dsr.recOf_len, hName_len]; rfl
  have hA : Dsr.askP c [114] (hName n) = (hV due n, Dsr.sealed (Dsr.recP c [114] (hName n)), 0, { c with wait := some ⟨hName n, hV due n, c.num + 1, c.len + 18, Dsr.hash (Dsr.recP c [114] (hName n))⟩ }) := by
    unfold Dsr.askP
    rw [hw]
    simp only [Option.isSome_none, Bool.false_eq_true, if_false]
    rw [if_neg (by rw [hName_len]; simp), hL, if_neg (by omega), hv]
  rw [hA]
  refine ⟨rfl, rfl, rfl, ?_⟩
  by_cases h0 : hV due n = 0
  · obtain ⟨da', db', dc', hd⟩ := h_do due da db dc n hn h0
    refine ⟨⟨da', db', dc', ?_⟩, hr, rfl, ?_⟩
    · show (if hV due n = 0 then Dsr.doP c.rs (hName n) c.es else c.es) = _
      rw [if_pos h0, he, hr]; exact hd
    · show c.len + 18 ≤ _
      omega
  · refine ⟨⟨da, db, dc, ?_⟩, hr, rfl, ?_⟩
    · show (if hV due n = 0 then Dsr.doP c.rs (hName n) c.es else c.es) = _
      rw [if_neg h0, he, h_stay due n hn h0]
    · show c.len + 18 ≤ _
      omega
theorem h_acc {c : Dsr.Cs} {due : Bool} {m : Nat} (h : HC c due m) : Dsr.acceptingP c.es = !due := by
  obtain ⟨⟨da, db, dc, he⟩, _⟩ := h
  rw [he]
  cases due <;> rfl
theorem h_mark {c : Dsr.Cs} {due : Bool} {m : Nat} (h : HC c due m) : ∃ da, Dsr.findE c.es [97] = some ⟨[97], [[114]], da, true, due⟩ := by
  obtain ⟨⟨da, db, dc, he⟩, _⟩ := h
  exact ⟨da, by rw [he]; rfl⟩
end Go.Proofs.YtjmcokcdaddpcaaGreatDoor
