import Derived.Test.YtjmcokcdaddpcaaGreatDoorUc
import Derived.Deep.CutRange
set_option linter.unusedVariables false
set_option linter.unusedSimpArgs false
namespace Go.Proofs.YtjmcokcdaddpcaaGreatDoor
open Go.RowKit
theorem Tryz.infoUse : (Tryz.prog.info? 199).map (fun i => (i.zero, i.size, i.bytes)) = some (some (.agg #[.int .u8 0, .int .i64 0, .string ⟨#[]⟩, .int .i64 0]), 4, 40) := by kernel_rfl
theorem news_lit {w : World} {cs : Array Value} {T : TypeId} : ∀ j u, cs.toList[j]? = some u → (w.alloc (.cells cs T)).cell? ((⟨w.heap.size, 0, none⟩ : Addr).add j) = some u :=
  World.news_of_block (heap_alloc_new w _)
theorem one_us (u : Dsr.Us) : ∀ v ∈ usC u, v.oneCell' = true := by intro v hv; simp [usC] at hv; rcases hv with rfl | rfl | rfl | rfl <;> rfl
/-- Behind the look at a name's size. -/
def RelN (B b : Nat) (w : World) (t : ByteArray) (r : Dsr.Rd) (s : St) (wc : World) : Prop :=
  RdAt B b wc t (Dsr.nameSize t.data.toList r) s ∧ Kp (· = b) (w.alloc (.cells #[.int .u8 r.now.kind, .int .u8 r.now.rule, .int .i64 r.now.at_, strV r.now.text] 135)) wc
/-- Behind the append of a use. -/
def RelM (B b : Nat) (wc : World) (t : ByteArray) (r1 : Dsr.Rd) (s : St) (u : Dsr.Us) (wd : World) : Prop :=
  ∃ s', RdAt B b wd t { r1 with uses := r1.uses ++ [u] } s' ∧ s'.ve = s.ve ∧ s'.vr = s.vr ∧ s'.rv = s.rv ∧ Kp (Mine b s) wc wd ∧ (∀ k, Mine b s' k → Mine b s k ∨ wc.heap.size ≤ k)
theorem grown_drew {w w' : World} {row : Option Nat} (h : w.drew.grownBy w' row) : w.grownBy w' row := ⟨h.os, h.tape, h.output, h.size, h.block⟩
theorem after_append {B b : Nat} {wc w1 : World} {t : ByteArray} {r1 : Dsr.Rd} {us : List Dsr.Us} {s : St} {u : Dsr.Us} {o : Obj} {g cap : Nat} (HR : RdAt B b wc t r1 s) (hus : r1.uses = us)
    (hown : w1.ownsRow B 199 4 (.slice (some ⟨g, 0, none⟩) (us.length + 1) cap) (us.length + 1) (us.flatMap usC ++ usC u)) (hgrow : (wc.alloc o).grownBy w1 s.vu.ownBlock) (hat : s.vu.ownBlock = some g ∨ g = (wc.alloc o).heap.size) :
    Hid (RelM B b wc t r1 s u (w1.setCell ⟨b, 7, none⟩ (.slice (some ⟨g, 0, none⟩) (us.length + 1) cap))) ∧ w1.cell? ⟨b, 7, none⟩ = some s.vu ∧ w1.frozen? ⟨b, 7, none⟩ = false := by
  subst hus
  have HA := HR.below ((Below.refl _ _).alloc (Nat.le_refl _) o)
  have hc := HA.cells
  have ha := HA.apart
  simp only [List.pairwise_cons, List.forall_mem_cons] at ha
  have hne : some b ≠ s.vu.ownBlock := by
    rcases ha.1.2.2.1 with h | h
    · cases h
    · exact h
  refine ⟨⟨_, HA.useAdd u hown hgrow hat, rfl, rfl, rfl, ?_, ?_⟩, ?_, ?_⟩
  · refine (((Kp.refl _ wc).alloc o).grown hgrow ?_).setCell (.inl (.inl rfl)) _
    exact fun k hk => .inl (.inr (.inr (.inr hk)))
  · intro k hk
    rcases hk with hk | hk | hk | hk
    · exact .inl (.inl hk)
    · exact .inl (.inr (.inl hk))
    · exact .inl (.inr (.inr (.inl hk)))
    · simp [Value.ownBlock] at hk
      subst hk
      rcases hat with h | h
      · exact .inl (.inr (.inr (.inr h)))
      · right; rw [h]; simp
  · rw [hgrow.cell_far ⟨b, 7, none⟩ HA.lt hne]; exact hc.2.2.2.2.2.2.2.1
  · rw [hgrow.frozen_far ⟨b, 7, none⟩ HA.lt hne]; exact hc.2.2.2.2.2.2.2.2.2.2 7
set_option maxRecDepth 100000 in
set_option maxHeartbeats 4000000 in
theorem name_any {B b : Nat} {w : World} {t : ByteArray} {r : Dsr.Rd} {s : St} (a : Nat) (h : RdAt B b w t r s) (hs : t.size ≤ 400) (ho : r.ok t.data.toList) (hS : SignsIn w) (hu : r.uses.length ≤ 1000) :
    Calls Tryz.prog 147 #[ptr b, .int .u8 a] w fun x w' => x = .returned (strV r.now.text) ∧ ∃ s', RdAt B b w' t (Dsr.name t.data.toList r a) s' ∧ s'.ve = s.ve ∧ s'.vr = s.vr ∧ s'.rv = s.rv ∧ Kp (Mine b s) w w' ∧ (∀ k, Mine b s' k → Mine b s k ∨ w.heap.size ≤ k) := by
  obtain ⟨c0, c1, c2, c3, c4, c5, c6, c7, c8, c9, fz⟩ := h.cells
  have hlt := h.lt
  have H : Hid (RdAt B b w t r s) := h
  have HS : Hid (SignsIn w) := hS
  have HO : Hid (r.ok t.data.toList) := ho
  have hBw : B ≤ w.heap.size := by have := h.low; omega
  have HA : Hid (RdAt B b (w.alloc (.cells #[.int .u8 r.now.kind, .int .u8 r.now.rule, .int .i64 r.now.at_, strV r.now.text] 135)) t r s) := h.below ((Below.refl _ _).alloc (Nat.le_refl _) _)
  clear h hS ho c0 c6 c8 c9
  go_enter Tryz.func147, Tryz.ntmps147
  go_upto_region 2 with fail
  go_cut [18] from 6 (fun s18 wc => s18 = .bool (Dsr.bigName r) ∧ wc = w.alloc (.cells #[.int .u8 r.now.kind, .int .u8 r.now.rule, .int .i64 r.now.at_, strV r.now.text] 135))
  case first =>
    by_cases h1 : r.now.kind = 1
    · have hb1 : ((r.now.kind : Int) == 1) = true := by simp [h1]
      have H1 : Hid (r.now.kind = 1) := h1
      clear h1
      by_cases h2 : 8 < r.now.text.length
      · go_wp2_with fail
        go_meet
        case rel => exact ⟨congrArg Value.bool (by simp [Dsr.bigName, H1.out]; omega), by simp [H1.out]⟩
      · go_wp2_with fail
        go_meet
        case rel => exact ⟨congrArg Value.bool (by simp [Dsr.bigName, H1.out]; omega), by simp [H1.out]⟩
    · have hb1 : ((r.now.kind : Int) == 1) = false := by simp; omega
      go_wp2_with fail
      go_meet
      case rel => exact ⟨congrArg Value.bool (by simp [Dsr.bigName, h1]), rfl⟩
  obtain ⟨rfl, rfl⟩ := hcut
  go_upto_if 18 with fail
  go_cut [] from 6 (fun wc => RelN B b w t r s wc)
  case first =>
    rcases h1 : Dsr.bigName r with _ | _
    · have HN : Hid (Dsr.nameSize t.data.toList r = r) := by show _ = _; rw [Dsr.nameSize, h1]; rfl
      go_wp2_with fail
      go_meet
      case rel => exact ⟨by rw [HN.out]; exact HA.out, Kp.refl _ _⟩
    · have HN : Hid (Dsr.nameSize t.data.toList r = Dsr.refuse t.data.toList r 3) := by show _ = _; rw [Dsr.nameSize, if_pos h1]
      go_wp2_with fail
      refine (refuse_any 3 HA.out hs).mono ?_
      rintro e w1 ⟨rfl, q1, q2⟩
      have Q : Hid (RelN B b w t r s w1) := ⟨by rw [HN.out]; exact q1, q2⟩
      clear q1 q2
      go_wp2_with fail
      go_meet
      case rel => exact Q.out
  rename World => wv
  obtain ⟨R1, K1⟩ := hcut
  obtain ⟨d0, d1, d2, d3, d4, d5, d6, d7, d8, d9, fz1⟩ := R1.cells
  have hbc := R1.lt
  have hLc : w.heap.size < wv.heap.size := by have := K1.size; simp at this; omega
  have hnb : ¬ w.heap.size = b := by omega
  have l2 : wv.cell? ⟨w.heap.size, 2, none⟩ = some (.int .i64 r.now.at_) := by rw [K1.cell (a := ⟨w.heap.size, 2, none⟩) (by simp) hnb]; simp
  have l3 : wv.cell? ⟨w.heap.size, 3, none⟩ = some (strV r.now.text) := by rw [K1.cell (a := ⟨w.heap.size, 3, none⟩) (by simp) hnb]; simp
  have eE : (Dsr.nameSize t.data.toList r).events = r.events := by unfold Dsr.nameSize Dsr.refuse; split <;> rfl
  have eU : (Dsr.nameSize t.data.toList r).uses = r.uses := by unfold Dsr.nameSize Dsr.refuse; split <;> rfl
  have u1 := R1.uss
  rw [eU] at u1
  have HU : Hid (wv.ownsRow B 199 4 s.vu r.uses.length (r.uses.flatMap usC)) := u1
  have HR : Hid (RdAt B b wv t (Dsr.nameSize t.data.toList r) s) := R1
  have HK : Hid (Kp (· = b) (w.alloc (.cells #[.int .u8 r.now.kind, .int .u8 r.now.rule, .int .i64 r.now.at_, strV r.now.text] 135)) wv) := K1
  have HE : Hid ((Dsr.nameSize t.data.toList r).events = r.events ∧ (Dsr.nameSize t.data.toList r).uses = r.uses) := ⟨eE, eU⟩
  obtain ⟨av, cv, hve⟩ := owned_shape H.out.evs
  obtain ⟨i0, hi, hz0, hz1, hz2⟩ := info_parts Tryz.infoUse
  clear R1 K1 eE eU u1 d0 d1 d2 d3 d4 d6 d8 d9 c1 c2 c3 c4 c5 c7 fz hlt
  go_wp2_with fail
  go_cut [] from 6 (fun wd => RelM B b wv t (Dsr.nameSize t.data.toList r) s ⟨a, r.events.length, r.now.text, r.now.at_⟩ wd)
  case first =>
    go_region_law (refine step_append_lies _ rfl (.tmp 25) (.tmp 38) 136 rfl B 199 i0 _ 4 40 Tryz.underlying136 hi hz0 hz1 hz2 rfl (by decide) s.vu r.uses.length _ (by simp [Act.eval, Act.put]) (by first | exact HU.out.alloc _ | exact (HU.out.alloc _).drew) ⟨wv.heap.size, 0, none⟩ 1 1 (usC ⟨a, r.events.length, r.now.text, r.now.at_⟩) (by simp [Act.eval, Act.put]) rfl (by exact news_lit) (one_us _) (by decide) (by unfold maxLen; omega) (by omega) (by simp; omega) _ rfl ?_; intro g cap w1 hown hgrow hat hlt1; obtain ⟨HM, e7, f7⟩ := after_append HR.out HE.out.2 hown (grown_drew hgrow) hat)
    all_goals
      go_wp2_with fail
      go_meet
      case rel => exact HM.out
  case rest =>
    obtain ⟨s', R2, q1, q2, q3, K2, M2⟩ := hcut
    have hS2 : SignsIn wc := (HS.out.kp ((Kp.refl (fun k => k = b) w).alloc _) (by have := H.out.pos; have := H.out.low; simp; omega)).kp HK.out (by have := H.out.pos; have := H.out.low; simp; omega) |>.kp K2 (fun hm => by have := HR.out.mine hm; have := H.out.pos; omega)
    have ok2 : ({ Dsr.nameSize t.data.toList r with uses := (Dsr.nameSize t.data.toList r).uses ++ [⟨a, r.events.length, r.now.text, r.now.at_⟩] } : Dsr.Rd).ok t.data.toList := Dsr.nameSize_ok HO.out
    have hLm : ¬ Mine b s w.heap.size := fun hm => by have := H.out.mine hm; omega
    have l3d : wc.cell? ⟨w.heap.size, 3, none⟩ = some (strV r.now.text) := by rw [K2.cell (a := ⟨w.heap.size, 3, none⟩) hLc hLm]; exact l3
    have hLd : w.heap.size < wc.heap.size := Nat.lt_of_lt_of_le hLc K2.size
    have HX : Hid (RdAt B b wc t { Dsr.nameSize t.data.toList r with uses := (Dsr.nameSize t.data.toList r).uses ++ [⟨a, r.events.length, r.now.text, r.now.at_⟩] } s' ∧ s'.ve = s.ve ∧ s'.vr = s.vr ∧ s'.rv = s.rv ∧ Kp (Mine b s) wv wc ∧ (∀ k, Mine b s' k → Mine b s k ∨ wv.heap.size ≤ k) ∧ SignsIn wc) := ⟨R2, q1, q2, q3, K2, M2, hS2⟩
    clear R2 q1 q2 q3 K2 M2 hS2
    go_wp2_with fail
    refine (take_any 1 HX.out.1 hs ok2 HX.out.2.2.2.2.2.2).mono ?_
    rintro e w3 ⟨rfl, R3, K3⟩
    have l3e : w3.cell? ⟨w.heap.size, 3, none⟩ = some (strV r.now.text) := by rw [K3.cell (a := ⟨w.heap.size, 3, none⟩) hLd hnb]; exact l3d
    have HY : Hid (RdAt B b w3 t (Dsr.take t.data.toList { Dsr.nameSize t.data.toList r with uses := (Dsr.nameSize t.data.toList r).uses ++ [⟨a, r.events.length, r.now.text, r.now.at_⟩] } 1) s' ∧ Kp (· = b) wc w3) := ⟨R3, K3⟩
    clear R3 K3
    go_wp2_with fail
    go_ret
    obtain ⟨R2, q1, q2, q3, K2, M2, _⟩ := HX.out
    obtain ⟨R3, K3⟩ := HY.out
    have eN : Dsr.name t.data.toList r a = Dsr.take t.data.toList { Dsr.nameSize t.data.toList r with uses := (Dsr.nameSize t.data.toList r).uses ++ [⟨a, r.events.length, r.now.text, r.now.at_⟩] } 1 := by rw [Dsr.name, HE.out.2]
    have K0 : Kp (Mine b s) w wv := ((Kp.refl _ w).alloc _).trans HK.out (fun k hk => .inl (.inl hk))
    refine ⟨rfl, s', by rw [eN]; exact R3, q1, q2, q3, (K0.trans K2 (fun k hk => .inl hk)).trans K3 (fun k hk => .inl (.inl hk)), fun k hk => ?_⟩
    rcases M2 k hk with h | h
    · exact .inl h
    · right; have := K0.size; omega
end Go.Proofs.YtjmcokcdaddpcaaGreatDoor
