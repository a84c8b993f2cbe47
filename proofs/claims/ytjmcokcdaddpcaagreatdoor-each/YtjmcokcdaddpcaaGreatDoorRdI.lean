import Derived.Test.YtjmcokcdaddpcaaGreatDoorRdH
import Derived.Test.YtjmcokcdaddpcaaGreatDoorUa
set_option linter.unusedVariables false
set_option linter.unusedSimpArgs false
namespace Go.Proofs.YtjmcokcdaddpcaaGreatDoor
open Go.RowKit
theorem ESt.trans {B b : Nat} {w w1 w2 : World} {t : ByteArray} {s s1 s2 : St} {r1 r2 : Dsr.Rd} (h : ESt B b w t s w1 r1 s1) (h' : ESt B b w1 t s1 w2 r2 s2) : ESt B b w t s w2 r2 s2 :=
  ⟨h'.rd, h.kp.trans h'.kp h.mine, fun k hk => by
    rcases h'.mine k hk with h1 | h1
    · exact h.mine k h1
    · right; have := h.kp.size; omega⟩
theorem ESt.ofB {B b : Nat} {w w' : World} {t : ByteArray} {s : St} {r' : Dsr.Rd} (h : RdAt B b w' t r' s) (hk : Kp (· = b) w w') : ESt B b w t s w' r' s :=
  ⟨h, hk.mono (fun k e => .inl (.inl e)), fun k e => .inl e⟩
theorem ESt.signs {B b : Nat} {w w' : World} {t : ByteArray} {s s' : St} {r r' : Dsr.Rd} (h : ESt B b w t s w' r' s') (h0 : RdAt B b w t r s) (hS : SignsIn w) : SignsIn w' :=
  hS.kp h.kp (fun hm => by have := h0.mine hm; have := h0.pos; omega)
set_option maxRecDepth 100000 in
set_option maxHeartbeats 1600000 in
theorem lines_any {B b : Nat} {w : World} {t : ByteArray} {s : St} (h : RdAt B b w t (Dsr.newRd t.data.toList) s) (hs : t.size ≤ 400) (hS : SignsIn w) :
    Calls Tryz.prog 64 #[ptr b] w fun x w' => x = .returned (.tuple #[]) ∧ ∃ s', ESt B b w t s w' (Dsr.lines t.data.toList 32 (Dsr.newRd t.data.toList)) s' := by
  have H : Hid (RdAt B b w t (Dsr.newRd t.data.toList) s) := h
  have HS : Hid (SignsIn w) := hS
  clear h hS
  go_enter Tryz.func64, Tryz.ntmps64
  go_wp2_with fail
  go_loopg [] (Dsr.left (Dsr.newRd t.data.toList)) (fun k wr => ∃ f r' s', ESt B b w t s wr r' s' ∧ Dsr.Fine t.data.toList (Dsr.newRd t.data.toList) f r' ∧ k = Dsr.left r')
  case atStart => exact ⟨32, _, s, ESt.ofB H.out (Kp.refl _ _), Dsr.Fine.start _ (by simpa using hs), rfl⟩
  case round =>
    obtain ⟨f, r', s', E', F', hk⟩ := hrel
    obtain ⟨c0, c1, c2, c3, c4, c5, c6, c7, c8, c9, fz⟩ := E'.rd.cells
    clear c0 c2 c3 c4 c5 c6 c7 c8 c9
    by_cases h10 : r'.now.kind = 10
    · have hb : ((r'.now.kind : Int) != 10) = false := by simp [h10]
      have HE : Hid (Dsr.lines t.data.toList 32 (Dsr.newRd t.data.toList) = r') := by show _ = _; rw [← F'.eq, Dsr.lines_end _ _ _ h10]
      have H1 : Hid (ESt B b w t s wr r' s') := E'
      clear E' F' h10 hk
      go_wp2_with fail
      go_end0
      exact ⟨rfl, s', by rw [HE.out]; exact H1.out⟩
    · have hb : ((r'.now.kind : Int) != 10) = true := by simp; omega
      obtain ⟨g, rfl⟩ := F'.pos h10
      have hu := F'.us
      have hev := F'.ev
      have hru := F'.ru
      have HH : Hid (ESt B b w t s wr r' s' ∧ Dsr.Fine t.data.toList (Dsr.newRd t.data.toList) (g + 1) r' ∧ gk = Dsr.left r') := ⟨E', F', hk⟩
      have H10 : Hid (¬ r'.now.kind = 10) := h10
      clear E' F' hk h10
      by_cases h2 : r'.now.kind = 2
      · have hb2 : ((r'.now.kind : Int) == 2) = true := by simp [h2]
        have H2 : Hid (r'.now.kind = 2) := h2
        clear h2
        go_wp2_with fail
        refine (event_any HH.out.1.rd hs HH.out.2.1.ok (HH.out.1.signs H.out HS.out) (by omega) hev).mono ?_
        rintro e w1 ⟨rfl, s1, E1⟩
        obtain ⟨F1, l1⟩ := HH.out.2.1.onEvent H2.out
        have hg := HH.out.2.2
        have H1 : Hid (ESt B b w t s w1 (Dsr.event t.data.toList r') s1 ∧ Dsr.Fine t.data.toList (Dsr.newRd t.data.toList) g (Dsr.event t.data.toList r') ∧ Dsr.left (Dsr.event t.data.toList r') < gk) := ⟨HH.out.1.trans E1, F1, by rw [hg]; exact l1⟩
        clear E1 F1 l1 hg
        go_wp2_with fail
        go_roundg (Dsr.left (Dsr.event t.data.toList r'))
        case measure => exact H1.out.2.2
        case rel => exact ⟨g, _, s1, H1.out.1, H1.out.2.1, rfl⟩
      · have hb2 : ((r'.now.kind : Int) == 2) = false := by simp; omega
        have H2 : Hid (¬ r'.now.kind = 2) := h2
        clear h2
        by_cases h1 : r'.now.kind = 1
        · have hb1 : ((r'.now.kind : Int) == 1) = true := by simp [h1]
          have H1' : Hid (r'.now.kind = 1) := h1
          clear h1
          go_wp2_with fail
          refine (rule_any HH.out.1.rd hs HH.out.2.1.ok (HH.out.1.signs H.out HS.out) (by omega) hru).mono ?_
          rintro e w1 ⟨rfl, s1, E1⟩
          obtain ⟨F1, l1⟩ := HH.out.2.1.onRule H1'.out
          have hg := HH.out.2.2
          have H1 : Hid (ESt B b w t s w1 (Dsr.rule t.data.toList r') s1 ∧ Dsr.Fine t.data.toList (Dsr.newRd t.data.toList) g (Dsr.rule t.data.toList r') ∧ Dsr.left (Dsr.rule t.data.toList r') < gk) := ⟨HH.out.1.trans E1, F1, by rw [hg]; exact l1⟩
          clear E1 F1 l1 hg
          go_wp2_with fail
          go_roundg (Dsr.left (Dsr.rule t.data.toList r'))
          case measure => exact H1.out.2.2
          case rel => exact ⟨g, _, s1, H1.out.1, H1.out.2.1, rfl⟩
        · have hb1 : ((r'.now.kind : Int) == 1) = false := by simp; omega
          have H1' : Hid (¬ r'.now.kind = 1) := h1
          clear h1
          go_wp2_with fail
          refine (refuse_any 2 HH.out.1.rd hs).mono ?_
          rintro e w1 ⟨rfl, R1, K1⟩
          obtain ⟨F1, l1⟩ := HH.out.2.1.onElse H10.out H2.out H1'.out
          have hg := HH.out.2.2
          have H1 : Hid (ESt B b w t s w1 (Dsr.refuse t.data.toList r' 2) s' ∧ Dsr.Fine t.data.toList (Dsr.newRd t.data.toList) g (Dsr.refuse t.data.toList r' 2) ∧ Dsr.left (Dsr.refuse t.data.toList r' 2) < gk) := ⟨HH.out.1.trans (ESt.ofB R1 K1), F1, by rw [hg]; exact l1⟩
          clear R1 K1 F1 l1 hg
          go_wp2_with fail
          go_roundg (Dsr.left (Dsr.refuse t.data.toList r' 2))
          case measure => exact H1.out.2.2
          case rel => exact ⟨g, _, s', H1.out.1, H1.out.2.1, rfl⟩
/-- A new reader. -/
def rd0St : St := ⟨.slice none 0 0, .slice none 0 0, .slice none 0 0, []⟩
set_option maxRecDepth 100000 in
set_option maxHeartbeats 1600000 in
theorem newReader_any {w : World} {t : ByteArray} (hs : t.size ≤ 400) (hS : SignsIn w) :
    Calls Tryz.prog 63 #[.string t] w fun x w' => ∃ b, x = .returned (ptr b) ∧ w.heap.size ≤ b ∧ RdAt w.heap.size b w' t (Dsr.newRd t.data.toList) rd0St ∧ Below w.heap.size w w' := by
  have HS : Hid (SignsIn w) := hS
  clear hS
  go_enter Tryz.func63, Tryz.ntmps63
  go_wp2_with fail
  refine (scan_at t 0 0 _ rfl hs (Nat.zero_le _) HS.out).mono ?_
  rintro e w1 ⟨rfl, hb⟩
  have HB : Hid (Below w.heap.size w w1) := hb
  clear hb
  go_wp2_with fail
  go_ret
  have hz := HB.out.size
  have h0 := HS.out.1
  refine ⟨w1.heap.size, rfl, hz, ?_, HB.out.trans (((Below.refl _ _).alloc (by omega) _))⟩
  refine { pos := h0, low := hz, blk := heap_alloc_new _ _, evs := World.ownsRow_nil _ _ _ _, rls := World.ownsRow_nil _ _ _ _, uss := World.ownsRow_nil _ _ _ _, len := rfl, rol := fun i e v h => by simp [Dsr.newRd] at h, apart := ?_ }
  simp [rd0St, Value.ownBlock, Differ]
end Go.Proofs.YtjmcokcdaddpcaaGreatDoor
