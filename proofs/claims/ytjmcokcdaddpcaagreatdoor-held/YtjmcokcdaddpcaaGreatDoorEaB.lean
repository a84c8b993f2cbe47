import Derived.Test.YtjmcokcdaddpcaaGreatDoorEaA
import Derived.Test.YtjmcokcdaddpcaaGreatDoorCsT
import Derived.Test.YtjmcokcdaddpcaaGreatDoorUh
set_option linter.unusedVariables false
set_option linter.unusedSimpArgs false
namespace Go.Proofs.YtjmcokcdaddpcaaGreatDoor
open Go.RowKit
theorem e_gok {k n : Nat} (hk : k < 5) : GOk [eA, eB n] [eR k] := by
  refine ⟨by simp [nms, eA, eB], ?_, ?_, by simp, by simp, ?_⟩
  · intro r hr
    simp at hr
    subst hr
    simp [nms, eA, eB, eR]
  · intro r hr
    simp at hr
    subst hr
    exact hk
  · intro e he
    simp at he
    rcases he with rfl | rfl <;> simp [eA, eB]
theorem e_ord {k n : Nat} (hk : k < 5) (hn : n < 8) {es : List Dsr.Ev} {rs : List Dsr.Rl} (h : OrdG (Dsr.readR (eText k n)) es rs) : es = [eA, eB n] ∧ rs = [eR k] := by
  obtain ⟨h1, h2⟩ := ord_one h (ce := [eA, eB n]) (cr := [eR k]) (by rw [e_ev k hk n hn]) (by simp [eA, eB]; decide) (by
    rw [e_ev k hk n hn]
    intro a ha b hb hab
    simp at ha hb
    rcases ha with rfl | rfl <;> rcases hb with rfl | rfl
    · rfl
    · simp [eA, eB] at hab
    · simp [eA, eB] at hab
    · rfl) (by rw [e_ru k hk n hn]) (by simp)
  refine ⟨?_, h2⟩
  rw [h1]
  simp [eA, eB, List.mergeSort_singleton]
theorem e_new {k n : Nat} (hk : k < 5) (hn : n < 8) {N : Nat} {w' : World} {pv sv : Value} {fe : Nat} (h : NewP N (eText k n) w' pv sv fe) : fe = 0 ∧ ∃ cb M a, pv = ptr cb ∧ CsAt M w' cb (ec0 k n) a none ∧ ∀ x, CFoot (ec0 k n) a cb none x → N ≤ x := by
  rcases h with ⟨h0, _, _, fa, hP⟩ | ⟨h0, _, es, rs, ho, _, cb, M, a, hp, hC, _, hF, _⟩
  · exfalso
    rcases hP with ⟨he, _⟩ | ⟨_, es, rs, ho, ⟨hl, _⟩ | ⟨_, h1, _⟩⟩
    · rw [e_err k hk n hn] at he; cases he
    · obtain ⟨rfl, rfl⟩ := e_ord hk hn ho
      have := of_decide_eq_true (e_len k hk n hn)
      omega
    · exact h0 h1
  · obtain ⟨rfl, rfl⟩ := e_ord hk hn ho
    exact ⟨h0, cb, M, a, hp, hC, hF⟩
set_option maxRecDepth 100000 in
set_option maxHeartbeats 4000000 in
theorem ruled_any {k n : Nat} (hk : k < 5) (hn : n < 8) (w : World) : Calls Tryz.prog 22 #[strV (eSign k), .int .i64 n] w fun x w' => x = .returned (strV (eText k n)) ∧ Below w.heap.size w w' := by
  rcases k with _ | _ | _ | _ | _ | k <;> rcases n with _ | _ | _ | _ | _ | _ | _ | _ | n <;> first | (exfalso; omega) | (go_enter Tryz.func22, Tryz.ntmps22; go_wp2_with fail; go_ret; exact ⟨rfl, Below.refl _ _⟩)
end Go.Proofs.YtjmcokcdaddpcaaGreatDoor
