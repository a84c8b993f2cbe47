import Derived.Test.YtjmcokcdaddpcaaGreatDoorNmB
import Derived.Test.YtjmcokcdaddpcaaGreatDoorUa
import Derived.Test.YtjmcokcdaddpcaaGreatDoorShelf
set_option linter.unusedVariables false
set_option linter.unusedSimpArgs false
namespace Go.Proofs.YtjmcokcdaddpcaaGreatDoor
open Go.RowKit
theorem below_dn {B : Nat} {a w : World} (h : Below B a w) (n : Nat) : Below B a (w.drewN n) := ⟨h.os, h.tape, h.output, h.size, h.block⟩
theorem ru_str (l rr s : List UInt8) : (⟨l.toArray⟩ ++ ⟨[32].toArray⟩ ++ ⟨s.toArray⟩ ++ ⟨[32].toArray⟩ ++ ⟨rr.toArray⟩ ++ ⟨[59, 10].toArray⟩ : ByteArray) = ⟨(l ++ [32] ++ s ++ [32] ++ rr ++ [59, 10]).toArray⟩ := by
  simp only [ByteArray.mk_append_mk]
set_option maxRecDepth 100000 in
set_option maxHeartbeats 1600000 in
theorem ruLine_any {w : World} (r : Dsr.Rl) (hk : r.kind < 5) (hl : r.left.length ≤ 1000) (hr : r.right.length ≤ 1000) (hS : SignsIn w) :
    Calls Tryz.prog 69 #[.agg #[strV r.left, strV r.right, .int .u8 r.kind]] w fun x w' => x = .returned (strV (Dsr.ruLine r)) ∧ Below w.heap.size w w' := by
  obtain ⟨h0, c0, c1, c2, c3, c4⟩ := hS
  obtain ⟨l, rr, k⟩ := r
  simp only at hk hl hr
  have hl' : (l.length : Int) ≤ 1000 := by omega
  have hr' : (rr.length : Int) ≤ 1000 := by omega
  rcases k with _ | _ | _ | _ | _ | k
  · go_enter Tryz.func69, Tryz.ntmps69
    go_wp2_with fail
    go_quiet (fail)
    go_wp2_with fail
    go_ret
    exact ⟨congrArg (fun s => Ending.returned (Value.string s)) (ru_str l rr [45, 62, 42]), below_dn ((Below.refl _ _).alloc (Nat.le_refl _) _) _⟩
  · go_enter Tryz.func69, Tryz.ntmps69
    go_wp2_with fail
    go_quiet (fail)
    go_wp2_with fail
    go_ret
    exact ⟨congrArg (fun s => Ending.returned (Value.string s)) (ru_str l rr [45, 62, 60, 62]), below_dn ((Below.refl _ _).alloc (Nat.le_refl _) _) _⟩
  · go_enter Tryz.func69, Tryz.ntmps69
    go_wp2_with fail
    go_quiet (fail)
    go_wp2_with fail
    go_ret
    exact ⟨congrArg (fun s => Ending.returned (Value.string s)) (ru_str l rr [42, 45, 62]), below_dn ((Below.refl _ _).alloc (Nat.le_refl _) _) _⟩
  · go_enter Tryz.func69, Tryz.ntmps69
    go_wp2_with fail
    go_quiet (fail)
    go_wp2_with fail
    go_ret
    exact ⟨congrArg (fun s => Ending.returned (Value.string s)) (ru_str l rr [45, 62, 43]), below_dn ((Below.refl _ _).alloc (Nat.le_refl _) _) _⟩
  · go_enter Tryz.func69, Tryz.ntmps69
    go_wp2_with fail
    go_quiet (fail)
    go_wp2_with fail
    go_ret
    exact ⟨congrArg (fun s => Ending.returned (Value.string s)) (ru_str l rr [45, 62, 37]), below_dn ((Below.refl _ _).alloc (Nat.le_refl _) _) _⟩
  · omega
end Go.Proofs.YtjmcokcdaddpcaaGreatDoor
namespace Go.Proofs.YtjmcokcdaddpcaaGreatDoor
open Go.RowKit
theorem write_any (B b : Nat) (bs : List Value) (s : ByteArray) (w : World) (h : Lib.IsBuilder 142 5 B b bs w) (hlen : bs.length + s.size ≤ 140737488355328) (hBw : B ≤ w.heap.size) :
    Calls Tryz.prog 67 #[.pointer (some ⟨b, 0, none⟩), .string s] w fun e w' => e = .returned (.tuple #[.int .i64 s.size, .nilIface]) ∧ (Lib.BuilderAt 142 5 B b (.pointer (some ⟨b, 0, none⟩)) (bs ++ Lib.strCells s) w' ∧ Below B w w') :=
  Go.Proofs.Any.Builder_WriteString { Tryz.lays156 with } Tryz.Builder_Extra_156 B b bs s w h hlen hBw
end Go.Proofs.YtjmcokcdaddpcaaGreatDoor
