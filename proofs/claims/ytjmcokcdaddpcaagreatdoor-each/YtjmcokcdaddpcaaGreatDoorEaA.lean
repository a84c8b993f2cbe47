import Derived.Test.YtjmcokcdaddpcaaGreatDoorUa
import Derived.Test.YtjmcokcdaddpcaaGreatDoorReC
import Derived.KernelRfl
set_option linter.unusedVariables false
set_option linter.unusedSimpArgs false
namespace Go.Proofs.YtjmcokcdaddpcaaGreatDoor
open Go.RowKit
/-- The graphs of Each. -/
def eSign (k : Nat) : List UInt8 := Dsr.signs.getD k []
def eHead : List UInt8 := [101, 118, 101, 110, 116, 32, 97, 32, 98, 121, 32, 114, 59, 32, 101, 118, 101, 110, 116, 32, 98, 32, 98, 121, 32, 114]
def eText (k n : Nat) : List UInt8 :=
  eHead ++ (if n % 2 = 1 then [32, 111, 117, 116] else []) ++ (if n / 2 % 2 = 1 then [32, 100, 117, 101] else []) ++ (if n / 4 % 2 = 1 then [32, 100, 111, 110, 101] else []) ++ [59, 32, 97, 32] ++ eSign k ++ [32, 98, 59]
def eA : Dsr.Ev := ⟨[97], [[114]], false, true, false⟩
def eB (n : Nat) : Dsr.Ev := ⟨[98], [[114]], decide (n / 4 % 2 = 1), decide (n % 2 = 0), decide (n / 2 % 2 = 1)⟩
def eR (k : Nat) : Dsr.Rl := ⟨[97], [98], k⟩
theorem e_ev : ∀ k, k < 5 → ∀ n, n < 8 → (Dsr.readR (eText k n)).events = [eA, eB n] := by
  intro k hk n hn
  rcases k with _ | _ | _ | _ | _ | k <;> rcases n with _ | _ | _ | _ | _ | _ | _ | _ | n <;> first | (exfalso; omega) | kernel_rfl
theorem e_ru : ∀ k, k < 5 → ∀ n, n < 8 → (Dsr.readR (eText k n)).rules = [eR k] := by
  intro k hk n hn
  rcases k with _ | _ | _ | _ | _ | k <;> rcases n with _ | _ | _ | _ | _ | _ | _ | _ | n <;> first | (exfalso; omega) | kernel_rfl
theorem e_err : ∀ k, k < 5 → ∀ n, n < 8 → errOf (eText k n) = none := by
  intro k hk n hn
  rcases k with _ | _ | _ | _ | _ | k <;> rcases n with _ | _ | _ | _ | _ | _ | _ | _ | n <;> first | (exfalso; omega) | kernel_rfl
/-- The case, step by step. -/
def ec0 (k n : Nat) : Dsr.Cs := Dsr.newCs [eA, eB n] [eR k]
def er1 (k n : Nat) := Dsr.askP (ec0 k n) [114] [98]
def ec2 (k n : Nat) : Dsr.Cs := (Dsr.settleP (er1 k n).2.2.2).2
def er2 (k n : Nat) := Dsr.askP (ec2 k n) [114] [97]
def ec4 (k n : Nat) : Dsr.Cs := (Dsr.settleP (er2 k n).2.2.2).2
def er3 (k n : Nat) := Dsr.askP (ec4 k n) [114] [98]
def eInn (k n : Nat) : Bool := if k = 3 then true else if k = 4 then false else decide (n % 2 = 0)
def eV1 (k n : Nat) : Nat := if n % 2 = 1 then 3 else if k = 0 then 4 else 0
def eDone (k n : Nat) : Bool := if eV1 k n = 0 then true else decide (n / 4 % 2 = 1)
def eDue (k n : Nat) : Bool := if k = 2 then true else if eV1 k n = 0 then false else decide (n / 2 % 2 = 1)
def mk3 (o : Option Dsr.Ev) (d i u : Bool) : Bool := match o with
  | some e => (e.done == d) && (e.inn == i) && (e.due == u)
  | none => false
def eChk (k n : Nat) : Bool :=
  mk3 (Dsr.findE (ec0 k n).es [98]) (decide (n / 4 % 2 = 1)) (decide (n % 2 = 0)) (decide (n / 2 % 2 = 1)) &&
  ((er1 k n).1 == eV1 k n) && ((er1 k n).2.2.1 == 0) && ((Dsr.settleP (er1 k n).2.2.2).1 == 0) &&
  ((er2 k n).1 == 0) && ((er2 k n).2.2.1 == 0) && ((Dsr.settleP (er2 k n).2.2.2).1 == 0) &&
  mk3 (Dsr.findE (ec4 k n).es [98]) (eDone k n) (eInn k n) (eDue k n) && mk3 (Dsr.findE (ec4 k n).es [97]) true true false &&
  (Dsr.acceptingP (ec4 k n).es == !(eInn k n && eDue k n)) && ((er3 k n).2.2.1 == 0) && ((er3 k n).1 == (if eInn k n then 0 else 3))
theorem e_chk : ∀ k, k < 5 → ∀ n, n < 8 → eChk k n = true := by
  intro k hk n hn
  rcases k with _ | _ | _ | _ | _ | k <;> rcases n with _ | _ | _ | _ | _ | _ | _ | _ | n <;> first | (exfalso; omega) | kernel_rfl
theorem e_len : ∀ k, k < 5 → ∀ n, n < 8 → decide ((Dsr.text [eA, eB n] [eR k]).length ≤ 400) = true := by
  intro k hk n hn
  rcases k with _ | _ | _ | _ | _ | k <;> rcases n with _ | _ | _ | _ | _ | _ | _ | _ | n <;> first | (exfalso; omega) | kernel_rfl
end Go.Proofs.YtjmcokcdaddpcaaGreatDoor
