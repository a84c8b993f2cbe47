import Derived.Test.YtjmcokcdaddpcaaGreatDoorRdD
import Derived.Test.YtjmcokcdaddpcaaGreatDoorRdE
import Derived.Deep.LoopGhost
set_option linter.unusedVariables false
set_option linter.unusedSimpArgs false
namespace Go.Proofs.YtjmcokcdaddpcaaGreatDoor
open Go.RowKit
theorem Tryz.infoString : (Tryz.prog.info? 9).map (fun i => (i.zero, i.size, i.bytes)) = some (some (.string ⟨#[]⟩), 1, 16) := by kernel_rfl
theorem name_m {B b : Nat} {w : World} {t : ByteArray} {r : Dsr.Rd} {s : St} (a : Nat) (h : RdAt B b w t r s) (hs : t.size ≤ 400) (ho : r.ok t.data.toList) (hS : SignsIn w) (hu : r.uses.length ≤ 1000) :
    Calls Tryz.prog 147 #[ptr b, .int .u8 a] w fun x w' => x = .returned (strV r.now.text) ∧ ∃ s', MSt B b w t s w' (Dsr.name t.data.toList r a) s' := by
  refine (name_any a h hs ho hS hu).mono ?_
  rintro e w' ⟨rfl, s', h1, h2, h3, h4, h5, h6⟩
  exact ⟨rfl, s', h1, h2, h3, h4, h5, h6⟩
/-- A slice of strings of the call's own. -/
def OwnStrs (B b : Nat) (w : World) (s' : St) (wr : World) (v : Value) (l : List (List UInt8)) : Prop :=
  wr.ownsRow B 9 1 v l.length (l.map strV) ∧ ∀ k, v.ownBlock = some k → w.heap.size ≤ k ∧ ¬ Mine b s' k
/-- The loop over the roles. -/
def RelR (B b : Nat) (w : World) (t : ByteArray) (r : Dsr.Rd) (s : St) (k : Nat) (v : Value) (wr : World) : Prop :=
  ∃ r' l s', MSt B b w t s wr r' s' ∧ OwnStrs B b w s' wr v l ∧ Dsr.rolesLoop t.data.toList k r' l = Dsr.roles t.data.toList r ∧ r'.ok t.data.toList ∧ l.length + k = 6 ∧ (k ≤ 1 → r'.now.kind ≠ 7) ∧ r'.uses.length ≤ r.uses.length + l.length
set_option maxRecDepth 100000 in
set_option maxHeartbeats 1600000 in
theorem roles_any {B b : Nat} {w : World} {t : ByteArray} {r : Dsr.Rd} {s : St} (h : RdAt B b w t r s) (hs : t.size ≤ 400) (ho : r.ok t.data.toList) (hS : SignsIn w) (hu : r.uses.length ≤ 900) :
    Calls Tryz.prog 148 #[ptr b] w fun x w' => ∃ v s', x = .returned v ∧ MSt B b w t s w' (Dsr.roles t.data.toList r).1 s' ∧ OwnStrs B b w s' w' v (Dsr.roles t.data.toList r).2 := by
  have H : Hid (RdAt B b w t r s) := h
  have HS : Hid (SignsIn w) := hS
  have HO : Hid (r.ok t.data.toList) := ho
  have hlt := h.lt
  have hB : B ≤ w.heap.size := by have := h.low; omega
  clear h hS ho
  go_enter Tryz.func148, Tryz.ntmps148
  go_wp2_with fail
  refine (name_m 1 H.out hs HO.out HS.out (by omega)).mono ?_
  rintro e w1 ⟨rfl, s1, M1⟩
  have H1 : Hid (MSt B b w t s w1 (Dsr.name t.data.toList r 1) s1) := M1
  clear M1
  go_wp2_with fail
  go_loopg [3] 5 (fun k v wr => RelR B b w t r s k v wr)
  case atStart =>
    have M1 := H1.out
    have hsz := M1.kp.size
    refine ⟨Dsr.name t.data.toList r 1, [r.now.text], s1, M1.aside ((Kp.refl (fun _ => False) _).alloc _) (fun _ h => h.elim) H.out.rvLt, ⟨?_, ?_⟩, rfl, Dsr.name_ok HO.out 1, rfl, (fun h => by omega), ?_⟩
    · exact World.ownsRow_lit _ _ 1 (by omega) (by decide) rfl
    · intro k hk
      simp [Value.ownBlock] at hk
      subst hk
      exact ⟨by omega, fun hm => by have := M1.rd.mine hm; omega⟩
    · rw [(Dsr.name_lists _ _ _).2.2]; simp
  case round =>
    obtain ⟨r', l, s', M', O', hL, ho', hlk, h0, hu'⟩ := hrel
    have HH : Hid (MSt B b w t s wr r' s' ∧ OwnStrs B b w s' wr u3 l ∧ Dsr.rolesLoop t.data.toList gk r' l = Dsr.roles t.data.toList r ∧ r'.ok t.data.toList) := ⟨M', O', hL, ho'⟩
    obtain ⟨av, cv, rfl⟩ := owned_shape O'.1
    clear M' O' hL ho'
    go_wp2_with fail
    refine (takeIf_any 7 HH.out.1.rd hs HH.out.2.2.2 (HH.out.1.signs H.out HS.out)).mono ?_
    rintro e w1 ⟨rfl, R1, K1⟩
    by_cases hk7 : r'.now.kind = 7
    · have hd : decide (r'.now.kind = 7) = true := by simp [hk7]
      obtain ⟨g, rfl⟩ : ∃ g, gk = g + 1 := ⟨gk - 1, by rcases gk with _ | g; exact absurd hk7 (h0 (by omega)); rfl⟩
      have hg2 : 1 ≤ g := by rcases g with _ | g; exact absurd hk7 (h0 (by omega)); omega
      have e1 : Dsr.takeIf t.data.toList r' 7 = Dsr.step t.data.toList r' := by rw [Dsr.takeIf, if_pos hk7]
      have e2 := HH.out.2.2.1
      rw [Dsr.rolesLoop, if_pos hk7] at e2
      rw [e1] at R1
      have M1 := HH.out.1.trans (MSt.ofB R1 K1)
      obtain ⟨c0, c1, c2, c3, c4, c5, c6, c7, c8, c9, fz⟩ := R1.cells
      have hO1 : OwnStrs B b w s' w1 (.slice av l.length cv) l := ⟨ownsRow_of_block HH.out.2.1.1 fun k hk hv => K1.block k hk (fun e => (HH.out.2.1.2 k hv).2 (.inl e)), HH.out.2.1.2⟩
      have H2 : Hid (MSt B b w t s w1 (Dsr.step t.data.toList r') s' ∧ OwnStrs B b w s' w1 (.slice av l.length cv) l ∧ Dsr.rolesLoop t.data.toList g (Dsr.name t.data.toList (Dsr.rolesSize t.data.toList (Dsr.step t.data.toList r') l.length) 1) (l ++ [(Dsr.rolesSize t.data.toList (Dsr.step t.data.toList r') l.length).now.text]) = Dsr.roles t.data.toList r ∧ (Dsr.step t.data.toList r').ok t.data.toList ∧ (Dsr.step t.data.toList r').uses = r'.uses) := ⟨M1, hO1, e2, Dsr.step_ok HH.out.2.2.2, rfl⟩
      clear R1 K1 e1 e2 M1 hO1 HH hk7
      generalize Dsr.step t.data.toList r' = r2 at *
      go_upto_region 3 with fail
      go_cut [19] from 7 to 26 (fun s19 wc => s19 = .bool (Dsr.bigRoles r2 l.length) ∧ wc = w1)
      case first =>
        by_cases h1 : r2.now.kind = 1
        · have hb1 : ((r2.now.kind : Int) == 1) = true := by simp [h1]
          have H1' : Hid (r2.now.kind = 1) := h1
          clear h1
          go_wp2_with fail
          go_meet
          case rel => exact ⟨congrArg Value.bool (by rw [Dsr.bigRoles, H1'.out]; rw [Bool.eq_iff_iff]; simp; try omega), rfl⟩
        · have hb1 : ((r2.now.kind : Int) == 1) = false := by simp; omega
          go_wp2_with fail
          go_meet
          case rel => exact ⟨congrArg Value.bool (by simp [Dsr.bigRoles, h1]), rfl⟩
      obtain ⟨rfl, rfl⟩ := hcut
      go_upto_if 19 with fail
      go_cut [] from 7 to 26 (fun wc => MSt B b w t s wc (Dsr.rolesSize t.data.toList r2 l.length) s' ∧ OwnStrs B b w s' wc (.slice av l.length cv) l)
      case first =>
        rcases h1 : Dsr.bigRoles r2 l.length with _ | _
        · have HN : Hid (Dsr.rolesSize t.data.toList r2 l.length = r2) := by show _ = _; rw [Dsr.rolesSize, h1]; rfl
          go_wp2_with fail
          go_meet
          case rel => rw [HN.out]; exact ⟨H2.out.1, H2.out.2.1⟩
        · have HN : Hid (Dsr.rolesSize t.data.toList r2 l.length = Dsr.refuse t.data.toList r2 3) := by show _ = _; rw [Dsr.rolesSize, if_pos h1]
          go_wp2_with fail
          refine (refuse_any 3 H2.out.1.rd hs).mono ?_
          rintro e w2 ⟨rfl, q1, q2⟩
          have Q : Hid (MSt B b w t s w2 (Dsr.rolesSize t.data.toList r2 l.length) s' ∧ OwnStrs B b w s' w2 (.slice av l.length cv) l) := by
            rw [HN.out]
            exact ⟨H2.out.1.trans (MSt.ofB q1 q2), ownsRow_of_block H2.out.2.1.1 fun k hk hv => q2.block k hk (fun e => (H2.out.2.1.2 k hv).2 (.inl e)), H2.out.2.1.2⟩
          clear q1 q2
          go_wp2_with fail
          go_meet
          case rel => exact Q.out
      rename World => wv
      obtain ⟨M3, O3⟩ := hcut
      have ok3 : (Dsr.rolesSize t.data.toList r2 l.length).ok t.data.toList := Dsr.rolesSize_ok H2.out.2.2.2.1 _
      have H3 : Hid (MSt B b w t s wv (Dsr.rolesSize t.data.toList r2 l.length) s' ∧ OwnStrs B b w s' wv (.slice av l.length cv) l) := ⟨M3, O3⟩
      have hu3 : (Dsr.rolesSize t.data.toList r2 l.length).uses.length ≤ 1000 := by rw [(Dsr.rolesSize_lists _ _ _).2.2, H2.out.2.2.2.2]; omega
      have HU3 : Hid ((Dsr.rolesSize t.data.toList r2 l.length).uses.length = r'.uses.length) := by show _ = _; rw [(Dsr.rolesSize_lists _ _ _).2.2, H2.out.2.2.2.2]
      have HL : Hid (Dsr.rolesLoop t.data.toList g (Dsr.name t.data.toList (Dsr.rolesSize t.data.toList r2 l.length) 1) (l ++ [(Dsr.rolesSize t.data.toList r2 l.length).now.text]) = Dsr.roles t.data.toList r) := H2.out.2.2.1
      have HE : Hid (l.length = 4 → (Dsr.name t.data.toList (Dsr.rolesSize t.data.toList r2 l.length) 1).now.kind = 10) := fun h => Dsr.roles_end h
      clear M3 O3 H2 c0 c1 c2 c3 c4 c5 c6 c7 c8 c9 fz
      generalize Dsr.rolesSize t.data.toList r2 l.length = r3 at *
      go_wp2_with fail
      refine (name_m 1 H3.out.1.rd hs ok3 (H3.out.1.signs H.out HS.out) hu3).mono ?_
      rintro e w4 ⟨rfl, s4, M4⟩
      have H4 : Hid (MSt B b w t s w4 (Dsr.name t.data.toList r3 1) s4 ∧ OwnStrs B b w s4 w4 (.slice av l.length cv) l) := by
        refine ⟨H3.out.1.trans M4, ownsRow_of_block H3.out.2.1 fun k hk hv => M4.kp.block k hk (H3.out.2.2 k hv).2, fun k hv => ⟨(H3.out.2.2 k hv).1, fun hm => ?_⟩⟩
        rcases M4.mine k hm with h | h
        · exact (H3.out.2.2 k hv).2 h
        · have := (H3.out.2.1.lt k hv).2; omega
      have hw4 : w.heap.size ≤ w4.heap.size := H4.out.1.kp.size
      clear M4
      obtain ⟨i0, hi, hz0, hz1, hz2⟩ := info_parts Tryz.infoString
      have hll : l.length ≤ 5 := by omega
      go_wp2_with (at_builtin; refine wpList_append_lies _ rfl (.tmp 22) (.tmp 25) 22 rfl B 9 i0 _ 1 16 Tryz.underlying22 hi hz0 hz1 hz2 rfl (by decide) (.slice av l.length cv) l.length _ (by simp [Act.eval, Act.put]) (H4.out.2.1.alloc _) ⟨w4.heap.size, 0, none⟩ 1 1 [strV r3.now.text] (by simp [Act.eval, Act.put]) rfl (by exact news_lit) (by intro u hu; simp at hu; subst hu; rfl) (by decide) (by unfold maxLen; omega) (by omega) (by simp; omega) _ rfl ?_; intro g' cap w5 hown hgrow hat hlt5)
      have M5 : MSt B b w t s w5 (Dsr.name t.data.toList r3 1) s4 :=
        H4.out.1.aside (((Kp.refl (fun k => (Value.slice av l.length cv).ownBlock = some k) _).alloc _).grown hgrow (fun k hk => .inl hk)) (fun k hk => H4.out.2.2 k hk) H.out.rvLt
      have O5 : OwnStrs B b w s4 w5 (.slice (some ⟨g', 0, none⟩) (l.length + 1) cap) (l ++ [r3.now.text]) := by
        refine ⟨by simpa using hown, fun k hk => ?_⟩
        simp [Value.ownBlock] at hk
        subst hk
        rcases hat with h | h
        · exact H4.out.2.2 _ h
        · have : g' = w4.heap.size + 1 := by simpa using h
          exact ⟨by omega, fun hm => by have := H4.out.1.rd.mine hm; omega⟩
      have hlen : (l ++ [r3.now.text]).length + g = 6 := by simp; omega
      have hend : g ≤ 1 → (Dsr.name t.data.toList r3 1).now.kind ≠ 7 := fun hg => by rw [HE.out (by omega)]; decide
      have huse : (Dsr.name t.data.toList r3 1).uses.length ≤ r.uses.length + (l ++ [r3.now.text]).length := by rw [(Dsr.name_lists _ _ _).2.2, HU3.out]; simp; omega
      go_roundg g
      case measure => omega
      case rel => exact ⟨_, _, s4, M5, O5, HL.out, Dsr.name_ok ok3 1, hlen, hend, huse⟩
    · have hd : decide (r'.now.kind = 7) = false := by simp [hk7]
      have e1 : Dsr.takeIf t.data.toList r' 7 = r' := by rw [Dsr.takeIf, if_neg hk7]
      rw [e1] at R1
      have e2 : Dsr.roles t.data.toList r = (r', l) := by
        rw [← HH.out.2.2.1]
        rcases gk with _ | g
        · rfl
        · rw [Dsr.rolesLoop, if_neg hk7]
      have M1 := HH.out.1.trans (MSt.ofB R1 K1)
      have hO1 : OwnStrs B b w s' w1 (.slice av l.length cv) l := ⟨ownsRow_of_block HH.out.2.1.1 fun k hk hv => K1.block k hk (fun e => (HH.out.2.1.2 k hv).2 (.inl e)), HH.out.2.1.2⟩
      have H2 : Hid (MSt B b w t s w1 (Dsr.roles t.data.toList r).1 s' ∧ OwnStrs B b w s' w1 (.slice av l.length cv) (Dsr.roles t.data.toList r).2) := by rw [e2]; exact ⟨M1, hO1⟩
      clear R1 K1 e1 e2 M1 hO1 HH hk7
      go_wp2_with fail
      go_ret
      exact ⟨_, s', rfl, H2.out.1, H2.out.2⟩
end Go.Proofs.YtjmcokcdaddpcaaGreatDoor
