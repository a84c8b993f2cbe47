import Derived.Test.YtjmcokcdaddpcaaGreatDoorReB
set_option linter.unusedVariables false
set_option linter.unusedSimpArgs false
namespace Go.Proofs.YtjmcokcdaddpcaaGreatDoor
open Go.RowKit
/-- What Print hands back. -/
def PrintP (t out : List UInt8) (fe fa : Nat) : Prop :=
  (errOf t = some (fe, fa) ∧ fe ≠ 0 ∧ out = []) ∨ (errOf t = none ∧ ∃ es rs, OrdG (Dsr.readR t) es rs ∧ ((400 < (Dsr.text es rs).length ∧ fe = 1 ∧ fa = 0 ∧ out = []) ∨ ((Dsr.text es rs).length ≤ 400 ∧ fe = 0 ∧ fa = 0 ∧ out = Dsr.text es rs)))
theorem read_any {w : World} {t : ByteArray} (hS : SignsIn w) :
    Calls Tryz.prog 39 #[.string t] w fun x w' => ∃ gv fe fa, x = .returned (.tuple #[gv, .agg #[.int .i64 (fe : Nat), .int .i64 (fa : Nat)]]) ∧ (∃ a n c d m e, gv = .agg #[.slice a n c, .slice d m e]) ∧ Below w.heap.size w w' ∧ ReadP w.heap.size t.data.toList w' gv fe fa := by
  rcases Nat.lt_or_ge 400 t.size with h | h
  · exact read_long h
  · exact read_short h hS
theorem below_drewN {B : Nat} {a w : World} (h : Below B a w) (n : Nat) : Below B a (w.drewN n) := ⟨h.os, h.tape, h.output, h.size, h.block⟩
set_option maxRecDepth 100000 in
set_option maxHeartbeats 3200000 in
theorem print_any {w : World} {t : ByteArray} (hS : SignsIn w) :
    Calls Tryz.prog 15 #[.string t] w fun x w' => ∃ out fe fa, x = .returned (.tuple #[strV out, .int .i64 (fe : Nat), .int .i64 (fa : Nat)]) ∧ Below w.heap.size w w' ∧ PrintP t.data.toList out fe fa := by
  have HS : Hid (SignsIn w) := hS
  clear hS
  go_enter Tryz.func15, Tryz.ntmps15
  go_wp2_with fail
  refine (read_any HS.out).mono ?_
  rintro x w1 ⟨gv, fe, fa, rfl, ⟨g1, g2, g3, g4, g5, g6, rfl⟩, b1, hR⟩
  generalize hga : (Value.slice g1 g2 g3) = ga at *
  generalize hgb : (Value.slice g4 g5 g6) = gb at *
  have H1 : Hid (Below w.heap.size w w1 ∧ ReadP w.heap.size t.data.toList w1 (.agg #[ga, gb]) fe fa ∧ SignsIn w1) := ⟨b1, hR, HS.out.below b1⟩
  clear b1
  by_cases h0 : fe = 0
  · subst h0
    have hOK : ∃ es rs, OrdG (Dsr.readR t.data.toList) es rs ∧ errOf t.data.toList = none ∧ (Dsr.text es rs).length ≤ 400 ∧ fa = 0 ∧ ∃ B ve vr rv, w.heap.size ≤ B ∧ (.agg #[ga, gb] : Value) = .agg #[ve, vr] ∧ GrAt B w1 es rs ve vr rv ∧ Small es rs := by
      rcases hR with ⟨_, h⟩ | ⟨hn, es, rs, ho, ⟨_, h, _⟩ | ⟨hl, _, hfa, hg⟩⟩
      · exact absurd rfl h
      · cases h
      · exact ⟨es, rs, ho, hn, hl, hfa, hg⟩
    obtain ⟨es, rs, ho, hn, hl, rfl, B, ve, vr, rv, hNB, hgv, hG, hSm⟩ := hOK
    have hgp : ga = ve ∧ gb = vr := by injection hgv with h; have h := congrArg Array.toList h; injection h with h1 h; injection h with h2 h; exact ⟨h1, h2⟩
    obtain ⟨ega, egb⟩ := hgp
    subst ega egb
    obtain ⟨ae, ce, hve⟩ := owned_shape hG.evs
    obtain ⟨ar, cr, hvr⟩ := owned_shape hG.rls
    subst hve hvr
    clear hga hgb
    have H2 : Hid (OrdG (Dsr.readR t.data.toList) es rs ∧ errOf t.data.toList = none ∧ (Dsr.text es rs).length ≤ 400 ∧ GrAt B w1 es rs (.slice ae es.length ce) (.slice ar rs.length cr) rv ∧ Small es rs) := ⟨ho, hn, hl, hG, hSm⟩
    clear ho hn hl hG hSm hgv hR
    go_wp2_with fail
    refine (text_any (H2.out.2.2.2.1.below (Nat.le_refl _) (((Below.refl _ _).alloc (Nat.le_refl _) _).alloc (by simp) _)) H2.out.2.2.2.2 (H1.out.2.2.below (((Below.refl _ _).alloc (Nat.le_refl _) _).alloc (by simp) _))).mono ?_
    rintro x w2 ⟨rfl, b2⟩
    have HB : Hid (Below w.heap.size w w2) := H1.out.1.trans ((below_alloc (below_alloc b2)).mono H1.out.1.size)
    clear b2
    go_wp2_with fail
    go_ret3
    exact ⟨Dsr.text es rs, 0, 0, rfl, HB.out, .inr ⟨H2.out.2.1, es, rs, H2.out.1, .inr ⟨H2.out.2.2.1, rfl, rfl, rfl⟩⟩⟩
  · have hb : ((fe : Int) != 0) = true := by simp; omega
    have HE : Hid (PrintP t.data.toList [] fe fa) := by
      rcases hR with ⟨h1, h2⟩ | ⟨hn, es, rs, ho, ⟨hl, h1, h2⟩ | ⟨_, h, _⟩⟩
      · exact .inl ⟨h1, h2, rfl⟩
      · exact .inr ⟨hn, es, rs, ho, .inl ⟨hl, h1, h2, rfl⟩⟩
      · exact absurd h h0
    clear hR h0
    subst hga hgb
    go_wp2_with fail
    go_quiet (fail)
    go_wp2_with fail
    go_ret3
    refine ⟨[], fe, fa, rfl, ?_, HE.out⟩
    repeat (first | exact H1.out.1 | refine Below.setCell ?_ (by simp; have := H1.out.1.size; omega) _ | refine below_drewN ?_ _ | refine Below.drew ?_ | refine Below.alloc ?_ H1.out.1.size _ | refine Below.alloc ?_ (by simp; have := H1.out.1.size; omega) _)
end Go.Proofs.YtjmcokcdaddpcaaGreatDoor
