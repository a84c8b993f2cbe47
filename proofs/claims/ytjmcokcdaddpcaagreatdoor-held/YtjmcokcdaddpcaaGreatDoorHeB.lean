import Derived.Test.YtjmcokcdaddpcaaGreatDoorHeA
import Derived.Test.YtjmcokcdaddpcaaGreatDoorEaC
set_option linter.unusedVariables false
set_option linter.unusedSimpArgs false
namespace Go.Proofs.YtjmcokcdaddpcaaGreatDoor
open Go.RowKit
theorem h_gok (f : Bool) : GOk (hE f false false false) hR := by
  refine ⟨by simp [nms, hE], ?_, ?_, by simp [hE], by simp [hR], ?_⟩
  · intro r hr
    simp [hR] at hr
    rcases hr with rfl | rfl <;> simp [nms, hE]
  · intro r hr
    simp [hR] at hr
    rcases hr with rfl | rfl <;> simp
  · intro e he
    simp [hE] at he
    rcases he with rfl | rfl | rfl <;> simp
theorem h_ord {f : Bool} {es : List Dsr.Ev} {rs : List Dsr.Rl} (h : OrdG (Dsr.readR (hText f)) es rs) : es = hE f false false false ∧ rs = hR := by
  obtain ⟨h1, h2⟩ := ord_one h (ce := hE f false false false) (cr := hR) (by rw [h_ev f]) (by simp [hE]; decide) (by
    rw [h_ev f]
    intro a ha b hb hab
    simp [hE] at ha hb
    rcases ha with rfl | rfl | rfl <;> rcases hb with rfl | rfl | rfl <;> simp at hab ⊢) (by rw [h_ru f]) (by simp [hR]; decide)
  refine ⟨?_, h2⟩
  rw [h1]
  simp [hE, List.mergeSort_singleton]
theorem h_new {f : Bool} {N : Nat} {w' : World} {pv sv : Value} {fe : Nat} (h : NewP N (hText f) w' pv sv fe) : fe = 0 ∧ ∃ cb M a c, pv = ptr cb ∧ CsAt M w' cb c a none ∧ HC c f 0 ∧ ∀ x, CFoot c a cb none x → N ≤ x := by
  rcases h with ⟨h0, _, _, fa, hP⟩ | ⟨h0, _, es, rs, ho, hl, cb, M, a, hp, hC, _, hF, _⟩
  · exfalso
    rcases hP with ⟨he, _⟩ | ⟨_, es, rs, ho, ⟨hl, _⟩ | ⟨_, h1, _⟩⟩
    · rw [h_err f] at he; cases he
    · obtain ⟨rfl, rfl⟩ := h_ord ho
      have := of_decide_eq_true (h_len f)
      omega
    · exact h0 h1
  · obtain ⟨rfl, rfl⟩ := h_ord ho
    refine ⟨h0, cb, M, a, _, hp, hC, ⟨⟨false, false, false, rfl⟩, rfl, newCs_wait _ _, ?_⟩, hF⟩
    rw [newCs_len, Dsr.sealed_len, Dsr.headOf_len]
    omega
/-- A slice of requests that can be read: what each asks for. -/
def OpsIs (w : World) (v : Value) (zs : List Int) : Prop :=
  (v = .slice none 0 0 ∧ zs = []) ∨ ∃ (a : Addr) (cap : Nat), v = .slice (some a) zs.length cap ∧ zs.length ≤ maxLen ∧ ∀ i z, zs[i]? = some z → w.cell? (a.add (i * 2 + 1)) = some (.int .i64 z) ∧ -9223372036854775808 ≤ z ∧ z ≤ 9223372036854775807
theorem OpsIs.below {w w' : World} {v : Value} {zs : List Int} (h : OpsIs w v zs) (hb : Below w.heap.size w w') : OpsIs w' v zs := by
  rcases h with h | ⟨a, cap, h1, h2, h3⟩
  · exact .inl h
  · refine .inr ⟨a, cap, h1, h2, fun i z hi => ?_⟩
    obtain ⟨c, hz⟩ := h3 i z hi
    exact ⟨by rw [hb.cell (World.block_lt_of_cell? _ _ c)]; exact c, hz⟩
end Go.Proofs.YtjmcokcdaddpcaaGreatDoor
