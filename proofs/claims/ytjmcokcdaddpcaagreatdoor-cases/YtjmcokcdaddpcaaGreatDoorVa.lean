import Derived.Test.YtjmcokcdaddpcaaGreatDoorUz
set_option linter.unusedVariables false
set_option linter.unusedSimpArgs false
namespace Go.Proofs.YtjmcokcdaddpcaaGreatDoor
open Go.RowKit
/-- Behind a step. -/
def StepQ (wz : World) (N : Nat) (s : WS) (x : Ending) (w' : World) : Prop := x = .returned (.bool true) ∧ ∃ ω' s', WInv wz N w' ω' s' ∧ s'.wb = s.wb ∧ s'.bn ≤ s.bn + 1 ∧ s.ps.length ≤ s'.ps.length ∧ ∀ p ∈ s'.ps, p.st = false
theorem askQ_bytes (c : RC) (r e : List UInt8) : (askQ c r e).2.1 = [] ∨ (askQ c r e).2.1 = (askQ c r e).2.2.2.bytes := by
  unfold askQ
  split
  · exact .inl rfl
  · split
    · exact .inl rfl
    · split
      · exact .inl rfl
      · exact .inr rfl
theorem askQ_idle {c : RC} {r e : List UInt8} (h : (askQ c r e).2.2.1 ≠ 0) : (askQ c r e).2.2.2 = c := by
  revert h
  unfold askQ
  split
  · exact fun _ => rfl
  · split
    · exact fun _ => rfl
    · split
      · exact fun _ => rfl
      · exact fun h => absurd rfl h
theorem st_set {ps : List PSt} (h : ∀ p ∈ ps, p.st = false) {i : Nat} {q : PSt} (hq : q.st = false) : ∀ p ∈ ps.set i q, p.st = false := fun p hp => by
  rcases List.mem_or_eq_of_mem_set hp with hp | rfl
  · exact h p hp
  · exact hq
theorem boxes {w w1 : World} {o1 o2 : Obj} {S : Nat → Prop} (hk : Kp S ((w.alloc o1).alloc o2) w1) (hS : ∀ k, S k → k < w.heap.size) : w1.heap[w.heap.size]? = some o1 ∧ w1.heap[w.heap.size + 1]? = some o2 ∧ w.heap.size + 1 < w1.heap.size := by
  have hs := hk.size
  simp at hs
  have e1 : (w.alloc o1).heap.size = w.heap.size + 1 := by simp
  have e2 := heap_alloc_new (w.alloc o1) o2
  rw [e1] at e2
  have e3 : ((w.alloc o1).alloc o2).heap[w.heap.size]? = some o1 := (Below.heap_alloc _ _ _ (by simp)).trans (heap_alloc_new w o1)
  exact ⟨(hk.block _ (by simp; omega) (fun h => by have := hS _ h; omega)).trans e3, (hk.block _ (by simp) (fun h => by have := hS _ h; omega)).trans e2, by omega⟩
theorem cells7 {w : World} {b : Nat} {v0 v1 v2 v3 v4 v5 v6 : Value} {T : TypeId} {fr : Nat × Nat} (h : w.heap[b]? = some (.cells #[v0, v1, v2, v3, v4, v5, v6] T fr)) : w.cell? ⟨b, 2, none⟩ = some v2 ∧ w.cell? ⟨b, 3, none⟩ = some v3 := by
  constructor <;> simp [World.cell?, h]
theorem cells4 {w : World} {b : Nat} {v0 v1 v2 v3 : Value} {T : TypeId} {fr : Nat × Nat} (h : w.heap[b]? = some (.cells #[v0, v1, v2, v3] T fr)) : w.cell? ⟨b, 0, none⟩ = some v0 ∧ w.cell? ⟨b, 1, none⟩ = some v1 ∧ w.cell? ⟨b, 2, none⟩ = some v2 ∧ w.cell? ⟨b, 3, none⟩ = some v3 := by
  refine ⟨?_, ?_, ?_, ?_⟩ <;> simp [World.cell?, h]
set_option maxRecDepth 100000 in
set_option maxHeartbeats 3200000 in
theorem wMoves_ask {wz : World} {N : Nat} {w : World} {ω : Nat → Nat} {s : WS} (h : WInv wz N w ω s) {i : Nat} {p : PSt} (hp : s.ps[i]? = some p) (e A C : Int) (S R : List UInt8) (ba : Option Addr) (bn bc : Nat) (hbn : s.bn < 1600000000000) (hst : ∀ p ∈ s.ps, p.st = false) :
    Calls Tryz.prog 78 #[ptr s.wb, .int .i64 i, .agg #[.int .i64 4, .int .i64 e, strV S, strV R, .slice ba bn bc, .int .i64 A, .int .i64 C]] w fun x w' => StepQ wz N s x w' := by
  have H : Hid (WInv wz N w ω s) := h
  have HP : Hid (s.ps[i]? = some p) := hp
  have hi : i < s.ps.length := (List.getElem?_eq_some_iff.1 hp).1
  have hpn : s.ps.length ≤ s.bn := h.pn
  obtain ⟨gl, cl, hvl, _, _⟩ := h.lr.form (by omega)
  have hlr := h.lr
  rw [hvl] at hlr
  obtain ⟨r0, r1, r2, r3, hgl⟩ := pr_at hlr hp
  have hblk := h.bk.blk
  obtain ⟨s0, _, _, _, _, _, sf⟩ := cells6R hblk
  rw [hvl] at s0
  have hwl : s.wb < w.heap.size := (Array.getElem?_eq_some_iff.1 hblk).1
  have hrf := (h.pr i p hp).rf
  obtain ⟨lg, hlg, _, _⟩ := hrf.lg
  obtain ⟨la, lc, hvlog⟩ := owned_shape hlg
  obtain ⟨pa, pc, hvb⟩ := owned_shape hrf.pb
  rw [hvlog] at r2
  rw [hvb] at r3
  have hiz : (i : Int) < s.ps.length := by omega
  have HC : Hid (∀ W : World, Below w.heap.size w W → CsAt p.M W p.cb p.c p.a p.wk) := fun W hW => (H.out.pr i p HP.out).pr.below hW
  have HV : Hid (s.vl = .slice (some ⟨gl, 0, none⟩) s.ps.length cl ∧ p.vlog = .slice la lg.length lc ∧ p.vb = .slice pa p.pb.length pc) := ⟨hvl, hvlog, hvb⟩
  have HST : Hid (∀ p ∈ s.ps, p.st = false) := hst
  clear h hp hlr hblk hrf hlg hvl hvlog hvb hst
  go_enter Tryz.func78, Tryz.ntmps78
  go_wp2_with fail
  refine (ask_any (HC.out _ (((Below.refl _ _).alloc (Nat.le_refl _) _).alloc (by simp) _)) R S).mono ?_
  obtain ⟨q1, q2, q3, q4⟩ := (H.out.pr i p HP.out).lk.ask R S
  obtain ⟨vd, hvd⟩ : ∃ vd, vd = (Dsr.askP p.c R S).1 := ⟨_, rfl⟩
  obtain ⟨fe, hfe⟩ : ∃ fe, fe = (Dsr.askP p.c R S).2.2.1 := ⟨_, rfl⟩
  obtain ⟨X, hX⟩ : ∃ X, X = (Dsr.askP p.c R S).2.1 := ⟨_, rfl⟩
  rw [← hvd] at q1
  rw [← hX] at q2
  rw [← hfe] at q3
  rintro y w1 ⟨sa, n, sc, hy, hA⟩
  rw [← hvd, ← hfe] at hy
  subst hy
  rw [← hX] at hA
  have HQ : Hid ((askQ p.rc R S).1 = vd ∧ (askQ p.rc R S).2.1 = X ∧ (askQ p.rc R S).2.2.1 = fe ∧ X = (Dsr.askP p.c R S).2.1) := ⟨q1, q2, q3, hX⟩
  clear q1 q2 q3 hvd hfe hX
  have hwA : Below w.heap.size w ((w.alloc (.cells #[.int .i64 4, .int .i64 e, strV S, strV R, .slice ba bn bc, .int .i64 A, .int .i64 C] 29)).alloc (.cells #[ptr p.cb, ptr p.rb, .slice la lg.length lc, .slice pa p.pb.length pc] 159)) := ((Below.refl _ _).alloc (Nat.le_refl _) _).alloc (by simp) _
  have hS1 : ∀ k, k = p.cb → PFoot p k := fun k hk => .inl hk
  have hr1 : RefAt w1 p := ref_mid H.out HP.out hwA hA.kp hS1
  have hcbl : p.cb < w.heap.size := (H.out.pr i p HP.out).pr.lt
  have HA : Hid _ := hA
  obtain ⟨x0, x1, hx1⟩ := boxes hA.kp (fun k hk => by rw [hk]; exact hcbl)
  have HR1 : Hid (RefAt w1 p) := hr1
  have HB1 : Hid (BOwn w.heap.size w1 (.slice sa n sc) X) := own_mono hA.own (by simp; omega)
  clear hA hr1 hwA hS1
  obtain ⟨y2, y3⟩ := cells7 x0
  obtain ⟨z0, z1, z2, z3⟩ := cells4 x1
  go_wp2_with fail
  refine (rcAsk_any HR1.out.rc R S).mono ?_
  rintro y w2 ⟨sa2, n2, sc2, a', hy, hR, hbo2, hvb2⟩
  rw [HQ.out.1, HQ.out.2.2.1] at hy
  subst hy
  have hXl : X.length ≤ 100 := by
    have := hR.rc.ok.by_
    rw [← HQ.out.2.1]
    rcases askQ_bytes p.rc R S with e | e
    · rw [e]; simp
    · rw [e]; exact this
  have hAS : AskS p.M ((w.alloc (.cells #[.int .i64 4, .int .i64 e, strV S, strV R, .slice ba bn bc, .int .i64 A, .int .i64 C] 29)).alloc (.cells #[ptr p.cb, ptr p.rb, .slice la lg.length lc, .slice pa p.pb.length pc] 159)) w1 p.cb (Dsr.askP p.c R S).2.2.2 p.a p.wk (.slice sa n sc) (Dsr.askP p.c R S).2.1 := by rw [← HQ.out.2.2.2]; exact HA.out
  obtain ⟨ω2, p', hW2, hv2, ⟨e1, e2, e3, e4, e5, e6, e7, e8, e9⟩, hω2⟩ := inv_ask H.out (decide (fe = 0)) HP.out (((Below.refl _ _).alloc (Nat.le_refl _) _).alloc (by simp) _) R S hAS hR (fun hf => by
    have hf : fe ≠ 0 := by simpa using hf
    rw [askQ_idle (by rw [HQ.out.2.2.1]; exact hf)]
    exact (H.out.pr i p HP.out).rf.pe (HST.out p (List.mem_of_getElem? HP.out)))
  have hcv := conv_str (ref_bytes HR1.out.rc hR.kp (own_mono HB1.out (Nat.zero_le _)))
  have hcv2 := conv_str hbo2
  rw [HQ.out.2.1] at hcv2
  have hXX : (X != X) = false := by simp
  have hs2 : w1.heap.size ≤ w2.heap.size := hR.kp.size
  have HVB : Hid (BOwn 0 w2 (.slice sa n sc) X ∧ ∀ k, (Value.slice sa n sc).ownBlock = some k → ω2 k = 2 ∧ w.heap.size ≤ k) := ⟨ref_bytes HR1.out.rc hR.kp (own_mono HB1.out (Nat.zero_le _)), hv2⟩
  have W2 : Hid (WInv wz N w2 ω2 { s with ps := s.ps.set i p' }) := hW2
  have HE : Hid ((fe = 0 → p'.ra.vb = .slice sa2 n2 sc2) ∧ p'.vlog = p.vlog ∧ p'.st = decide (fe = 0)) := ⟨fun h0 => by rw [e7]; exact hvb2 (HQ.out.2.2.1.trans h0), e3, e9⟩
  clear hAS hW2 hv2 hω2 hR hbo2 hvb2 e1 e2 e3 e4 e5 e6 e7 e8 e9
  go_wp2_with fail
  refine (bBytes_any W2.out.bk.blk W2.out.bk.bs W2.out.bk.kb W2.out.bk.rd HVB.out.1 (fun e he x hx hn => by
      obtain ⟨cc, hcc⟩ := (H.out.bk.rd e he).type hx
      have := (Array.getElem?_eq_some_iff.1 hcc).1
      have := (HVB.out.2 x hn).2
      omega) (by omega) (by have := H.out.bk.bl4; show s.bl.length ≤ _; omega) (by show s.bn ≤ _; omega) W2.out.NL (Nat.zero_le _)).mono ?_
  rintro y w3 ⟨rfl, hP⟩
  obtain ⟨ω3, s3, hW3, e1, e2, e3, e4, hω3⟩ := inv_bytes W2.out HVB.out.1 hP (fun k hk => (HVB.out.2 k hk).1) (by omega) hbn
  have e1 : s3.wb = s.wb := e1
  have e2 : s3.bn = s.bn + 1 := e2
  have e3 : s3.ps = s.ps.set i p' := e3
  have e4 : s3.vl = s.vl := e4
  have hp3 : s3.ps[i]? = some p' := by rw [e3]; exact List.getElem?_set_self hi
  have hblk3 := hW3.bk.blk
  rw [e1, e4, HV.out.1] at hblk3
  obtain ⟨k0, _, _, _, _, _, kf⟩ := cells6R hblk3
  have hwl3 : s.wb < w3.heap.size := (Array.getElem?_eq_some_iff.1 hblk3).1
  have hlr3 := hW3.lr
  have hln3 : s3.ps.length = s.ps.length := by rw [e3]; simp
  rw [e4, HV.out.1, hln3] at hlr3
  obtain ⟨_, _, _, d3, hgl3⟩ := pr_at hlr3 hp3
  obtain ⟨cur, hgc⟩ := own_type hlr3 (k := gl) rfl
  have df : ∀ o, w3.frozen? ⟨gl, o, none⟩ = false := fun o => by simp [World.frozen?, hgc]
  have H3 : Hid (WInv wz N w3 ω3 s3 ∧ s3.wb = s.wb ∧ s3.bn = s.bn + 1 ∧ s3.ps = s.ps.set i p' ∧ s3.vl = .slice (some ⟨gl, 0, none⟩) s3.ps.length cl ∧ s3.ps[i]? = some p') := ⟨hW3, e1, e2, e3, by rw [e4, HV.out.1, hln3], hp3⟩
  clear hW3 e1 e2 e3 e4 hp3 hblk3 hlr3 hω3 hP hcv hcv2 hgc
  rcases Nat.eq_zero_or_pos fe with h0 | h0
  · have HF : Hid (WInv wz N (w3.setCell ⟨gl, i * 4 + 3, none⟩ (.slice sa2 n2 sc2)) ω3 { s3 with ps := s3.ps.set i { p' with vb := .slice sa2 n2 sc2, pb := p'.rc.bytes, st := false } }) := by
      have hW := H3.out.1
      have hPk := hW.pr i p' H3.out.2.2.2.2.2
      have hav := HE.out.1 h0
      exact inv_put hW H3.out.2.2.2.2.2 H3.out.2.2.2.2.1 (by decide) rfl ⟨rfl, rfl, rfl, rfl, rfl⟩ ⟨hPk.rf.rc, hPk.rf.lg, by
        show BOwn 0 w3 (.slice sa2 n2 sc2) p'.rc.bytes
        rw [← hav]
        exact own_mono hPk.rf.rc.by_ (Nat.zero_le _), hPk.rf.rc.ok.by_, fun _ _ => rfl⟩ (fun k hk => by
        rcases hk with hk | hk | hk
        · exact hPk.qo k (.inl hk)
        · exact hPk.qo k (.inr (.inl hk))
        · refine hPk.qo k (.inl (.inr (.inr (.inr (.inr ?_)))))
          rw [hav]
          exact hk) hPk.lk
    subst h0
    go_wp2_with fail
    go_ret
    exact ⟨rfl, ω3, _, HF.out, H3.out.2.1, by show s3.bn ≤ _; rw [H3.out.2.2.1]; omega, (by show _ ≤ (s3.ps.set _ _).length; rw [H3.out.2.2.2.1]; simp), by
      show ∀ q ∈ s3.ps.set i _, q.st = false
      rw [H3.out.2.2.2.1, List.set_set]
      exact st_set HST.out rfl⟩
  · have hne : ((fe : Int) == 0) = false := by simp; omega
    go_wp2_with fail
    go_ret
    exact ⟨rfl, ω3, s3, H3.out.1, H3.out.2.1, by rw [H3.out.2.2.1]; omega, by rw [H3.out.2.2.2.1]; simp, by
      rw [H3.out.2.2.2.1]
      exact st_set HST.out (by rw [HE.out.2.2]; simp; omega)⟩
end Go.Proofs.YtjmcokcdaddpcaaGreatDoor
set_option linter.unusedVariables false
set_option linter.unusedSimpArgs false
namespace Go.Proofs.YtjmcokcdaddpcaaGreatDoor
open Go.RowKit
theorem boxes2 {w w1 w2 : World} {o1 o2 : Obj} {S : Nat → Prop} (h : w1.heap[w.heap.size]? = some o1 ∧ w1.heap[w.heap.size + 1]? = some o2 ∧ w.heap.size + 1 < w1.heap.size) (hk : Kp S w1 w2) (hS : ∀ k, S k → k < w.heap.size) : w2.heap[w.heap.size]? = some o1 ∧ w2.heap[w.heap.size + 1]? = some o2 ∧ w.heap.size + 1 < w2.heap.size :=
  ⟨(hk.block _ (by omega) (fun h => by have := hS _ h; omega)).trans h.1, (hk.block _ (by omega) (fun h => by have := hS _ h; omega)).trans h.2.1, by have := hk.size; omega⟩
/-- The log has been written anew, and lies in its pair. -/
theorem after_log {wz : World} {N : Nat} {w2 w3 w4 : World} {ω2 : Nat → Nat} {s2 : WS} {i gl cl g3 cap3 g4 cap4 : Nat} {p' : PSt} {lg pb : List UInt8} (W2 : Hid (WInv wz N w2 ω2 s2 ∧ s2.ps[i]? = some p' ∧ s2.vl = .slice (some ⟨gl, 0, none⟩) s2.ps.length cl ∧ 0 < lg.length ∧ lg.length + pb.length ≤ 3000 + 100 * p'.rc.reqs.length ∧ p'.st = false)) (B3 : Hid (BOwn w2.heap.size w3 (.slice (some ⟨g3, 0, none⟩) lg.length cap3) lg ∧ Below w2.heap.size w2 w3))
    (hown : w4.ownsRow w2.heap.size 5 1 (.slice (some ⟨g4, 0, none⟩) (lg.length + pb.length) cap4) (lg.length + pb.length) (lg.map byV ++ pb.map byV)) (hg : w3.grownBy w4 (Value.slice (some ⟨g3, 0, none⟩) lg.length cap3).ownBlock) :
    Hid (∃ ω4 p2, WInv wz N (w4.setCell ⟨gl, i * 4 + 2, none⟩ (.slice (some ⟨g4, 0, none⟩) (lg.length + pb.length) cap4)) ω4 { s2 with ps := s2.ps.set i p2 } ∧ p2.st = false) ∧ Below w2.heap.size w2 w4 := by
  obtain ⟨hW, hp, hvl, h0, hl, hst⟩ := W2.out
  have hb : Below w2.heap.size w2 w4 := B3.out.2.grown hg (by have := B3.out.2.size; omega) (fun k hk => (World.ownsRow.lt B3.out.1 k hk).1)
  refine ⟨?_, hb⟩
  have hW4 : WInv wz N w4 (ownN w2 ω2 fun _ => 4 + 2 * i) s2 := inv_below hW hb _
  have hPk := hW4.pr i p' hp
  refine ⟨_, { p' with vlog := .slice (some ⟨g4, 0, none⟩) (lg.length + pb.length) cap4 }, inv_put hW4 hp hvl (by decide) rfl ⟨rfl, rfl, rfl, rfl, rfl⟩ ⟨hPk.rf.rc, ⟨lg ++ pb, ?_, by simp; omega, by rw [List.length_append]; exact hl⟩, hPk.rf.pb, hPk.rf.pl, hPk.rf.pe⟩ (fun k hk => ?_) hPk.lk, hst⟩
  · refine own_mono (B := w2.heap.size) ?_ (Nat.zero_le _)
    show w4.ownsRow _ 5 1 _ (lg ++ pb).length ((lg ++ pb).map byV)
    rw [List.length_append, List.map_append]
    exact hown
  · rcases hk with hk | hk | hk
    · exact hPk.qo k (.inl hk)
    · rw [ownN_new (World.ownsRow.lt hown k hk).1]
    · exact hPk.qo k (.inr (.inr hk))
theorem after_cpL {w2 w3 : World} {lg : List UInt8} {g cap : Nat} (hown : w3.ownsRow w2.heap.size 5 1 (.slice (some ⟨g, 0, none⟩) (0 + lg.length) cap) (0 + lg.length) ([] ++ lg.map byV)) (hg : w2.grownBy w3 (Value.slice none 0 0).ownBlock) :
    Hid (BOwn w2.heap.size w3 (.slice (some ⟨g, 0, none⟩) lg.length cap) lg ∧ Below w2.heap.size w2 w3) := by
  rw [Nat.zero_add, List.nil_append] at hown
  exact ⟨hown, (Below.refl _ _).grown hg (Nat.le_refl _) (fun k hk => by cases hk)⟩
theorem settleQ_ok {c : RC} (h : (settleQ c).1 = 0) : c.bytes ≠ [] ∧ (settleQ c).2.reqs.length = c.reqs.length + 1 := by
  revert h
  unfold settleQ
  split
  · exact fun h => by cases h
  · rename_i hb
    exact fun _ => ⟨fun e => hb (by rw [e]; rfl), by simp⟩
set_option maxRecDepth 100000 in
set_option maxHeartbeats 3200000 in
theorem wMoves_settle {wz : World} {N : Nat} {w : World} {ω : Nat → Nat} {s : WS} (h : WInv wz N w ω s) {i : Nat} {p : PSt} (hp : s.ps[i]? = some p) (e A C : Int) (S R : List UInt8) (ba : Option Addr) (bn bc : Nat) (hbn : s.bn < 1600000000000) (hst : ∀ p ∈ s.ps, p.st = false) :
    Calls Tryz.prog 78 #[ptr s.wb, .int .i64 i, .agg #[.int .i64 5, .int .i64 e, strV S, strV R, .slice ba bn bc, .int .i64 A, .int .i64 C]] w fun x w' => StepQ wz N s x w' := by
  have H : Hid (WInv wz N w ω s) := h
  have HP : Hid (s.ps[i]? = some p) := hp
  have hi : i < s.ps.length := (List.getElem?_eq_some_iff.1 hp).1
  have hpn : s.ps.length ≤ s.bn := h.pn
  obtain ⟨gl, cl, hvl, _, _⟩ := h.lr.form (by omega)
  have hlr := h.lr
  rw [hvl] at hlr
  obtain ⟨r0, r1, r2, r3, hgl⟩ := pr_at hlr hp
  have hblk := h.bk.blk
  obtain ⟨s0, _, _, _, _, _, sf⟩ := cells6R hblk
  rw [hvl] at s0
  have hwl : s.wb < w.heap.size := (Array.getElem?_eq_some_iff.1 hblk).1
  have hrf := (h.pr i p hp).rf
  obtain ⟨lg, hlg, hlg0, hlgl⟩ := hrf.lg
  have hrq := hrf.rc.ok.rq
  have hpl := hrf.pl
  obtain ⟨la, lc, hvlog⟩ := owned_shape hlg
  obtain ⟨pa, pc, hvb⟩ := owned_shape hrf.pb
  rw [hvlog] at r2
  rw [hvb] at r3
  have hiz : (i : Int) < s.ps.length := by omega
  have HC : Hid (∀ W : World, Below w.heap.size w W → CsAt p.M W p.cb p.c p.a p.wk) := fun W hW => (H.out.pr i p HP.out).pr.below hW
  have HV : Hid (s.vl = .slice (some ⟨gl, 0, none⟩) s.ps.length cl ∧ p.vlog = .slice la lg.length lc ∧ p.vb = .slice pa p.pb.length pc ∧ BOwn 0 w p.vlog lg) := ⟨hvl, hvlog, hvb, hlg⟩
  have HST : Hid (∀ p ∈ s.ps, p.st = false) := hst
  clear h hp hlr hblk hrf hlg hvl hvlog hvb hst
  go_enter Tryz.func78, Tryz.ntmps78
  go_wp2_with fail
  refine (settle_any (HC.out _ (((Below.refl _ _).alloc (Nat.le_refl _) _).alloc (by simp) _))).mono ?_
  obtain ⟨q1, q2⟩ := (H.out.pr i p HP.out).lk.settle
  obtain ⟨fe, hfe⟩ : ∃ fe, fe = (Dsr.settleP p.c).1 := ⟨_, rfl⟩
  rw [← hfe] at q1
  rintro y w1 ⟨hy, hcs, hk⟩
  rw [← hfe] at hy
  subst hy
  have HQ : Hid ((settleQ p.rc).1 = fe) := q1
  clear q1 q2 hfe
  have hwA : Below w.heap.size w ((w.alloc (.cells #[.int .i64 5, .int .i64 e, strV S, strV R, .slice ba bn bc, .int .i64 A, .int .i64 C] 29)).alloc (.cells #[ptr p.cb, ptr p.rb, .slice la lg.length lc, .slice pa p.pb.length pc] 159)) := ((Below.refl _ _).alloc (Nat.le_refl _) _).alloc (by simp) _
  have hS1 : ∀ k, (k = p.cb ∨ k ∈ p.a.eb) → PFoot p k := fun k hk => by
    rcases hk with hk | hk
    · exact .inl hk
    · exact .inr (.inr (foot_iff.2 (.inr (.inl hk))))
  have hr1 : RefAt w1 p := ref_mid H.out HP.out hwA hk hS1
  have hbx := boxes hk (fun k hk => cfoot_lt (H.out.pr i p HP.out).pr (hS1 k hk))
  obtain ⟨z0, z1, z2, z3⟩ := cells4 hbx.2.1
  have hx1 := hbx.2.2
  have HB1 : Hid (BOwn 0 w1 p.vlog lg) := HV.out.2.2.2.block (fun k hk0 hv => (kp_after hwA hk).block k hk0 (fun hs => by
    have := (H.out.pr i p HP.out).po k (hS1 k hs)
    have := (H.out.pr i p HP.out).qo k (.inr (.inl hv))
    omega))
  have HR1 : Hid (RefAt w1 p) := hr1
  have HK : Hid _ := And.intro hcs hk
  have HBX : Hid _ := hbx
  clear hcs hk hr1 hbx hwA hS1
  go_wp2_with fail
  refine (rcSettle_any HR1.out.rc).mono ?_
  rintro y w2 ⟨hy, a', hR⟩
  rw [HQ.out] at hy
  subst hy
  obtain ⟨ω2, p', hW2, e1, e2, e3, e4, e5, e6, e7⟩ := inv_settle H.out HP.out (((Below.refl _ _).alloc (Nat.le_refl _) _).alloc (by simp) _) HK.out.1 HK.out.2 hR
  have hp2 : (s.ps.set i p')[i]? = some p' := List.getElem?_set_self hi
  rcases Nat.eq_zero_or_pos fe with h0 | h0
  · subst h0
    obtain ⟨hby, hrq'⟩ := settleQ_ok HQ.out
    have hpe : p.pb = p.rc.bytes := (H.out.pr i p HP.out).rf.pe (HST.out p (List.mem_of_getElem? HP.out)) hby
    have hpb0 : 0 < p.pb.length := by rw [hpe]; exact List.length_pos_iff.2 hby
    clear hpe
    have hlog2 : BOwn 0 w2 (.slice la lg.length lc) lg := by rw [← HV.out.2.1]; exact ref_bytes HR1.out.rc hR.kp HB1.out
    have hpb2 : BOwn 0 w2 (.slice pa p.pb.length pc) p.pb := by rw [← HV.out.2.2.1]; exact ref_bytes HR1.out.rc hR.kp HR1.out.pb
    obtain ⟨ga, rfl, _, _⟩ := own_some hlog2 hlg0
    obtain ⟨gb, rfl, _, _⟩ := own_some hpb2 hpb0
    have hbx2 := boxes2 HBX.out hR.kp (fun k hk => by
      have hr := (H.out.pr i p HP.out).rf.rc
      rcases hk with hk | hk
      · exact (hr.footLt (.inl hk)).2
      · exact (hr.footLt (.inr (.inr (.inl hk)))).2)
    obtain ⟨m0, m1, m2, m3⟩ := cells4 hbx2.2.1
    have hx2 := hbx2.2.2
    have hblk2 : w2.heap[s.wb]? = some (.cells #[.slice (some ⟨gl, 0, none⟩) s.ps.length cl, s.vbs, s.vkb, s.vss, s.vks, .int .i64 s.bn] 107 (0, 0)) := by
      have := hW2.bk.blk
      rw [show ({ s with ps := s.ps.set i p' } : WS).vl = .slice (some ⟨gl, 0, none⟩) s.ps.length cl from HV.out.1] at this
      exact this
    obtain ⟨k0, _, _, _, _, _, _⟩ := cells6R hblk2
    have hwl2 : s.wb < w2.heap.size := (Array.getElem?_eq_some_iff.1 hblk2).1
    have hlr2 : w2.ownsRow N 159 4 (.slice (some ⟨gl, 0, none⟩) s.ps.length cl) s.ps.length ((s.ps.set i p').flatMap prC) := by
      have := hW2.lr
      rw [show ({ s with ps := s.ps.set i p' } : WS).vl = .slice (some ⟨gl, 0, none⟩) s.ps.length cl from HV.out.1, show ({ s with ps := s.ps.set i p' } : WS).ps.length = s.ps.length from List.length_set] at this
      exact this
    obtain ⟨_, _, d2, _, hgl2⟩ := pr_at hlr2 hp2
    rw [e3, HV.out.2.1] at d2
    obtain ⟨cur, hgc⟩ := own_type hlr2 (k := gl) rfl
    have W2 : Hid (WInv wz N w2 ω2 { s with ps := s.ps.set i p' } ∧ ({ s with ps := s.ps.set i p' } : WS).ps[i]? = some p' ∧ ({ s with ps := s.ps.set i p' } : WS).vl = .slice (some ⟨gl, 0, none⟩) ({ s with ps := s.ps.set i p' } : WS).ps.length cl ∧ 0 < lg.length ∧ lg.length + p.pb.length ≤ 3000 + 100 * p'.rc.reqs.length ∧ p'.st = false) := ⟨hW2, hp2, HV.out.1.trans (by show _ = Value.slice _ (s.ps.set i p').length _; rw [List.length_set]), hlg0, by rw [e6, hrq']; omega, e7⟩
    have sW : ∀ W : World, Below w2.heap.size w2 W → W.cell? ⟨s.wb, 0, none⟩ = some (.slice (some ⟨gl, 0, none⟩) s.ps.length cl) ∧ W.cell? ⟨w.heap.size + 1, 3, none⟩ = some (.slice (some ⟨gb, 0, none⟩) p.pb.length pc) ∧ W.cell? ⟨gl, i * 4 + 2, none⟩ = some (.slice (some ⟨ga, 0, none⟩) lg.length lc) ∧ W.frozen? ⟨gl, i * 4 + 2, none⟩ = false ∧ gl < W.heap.size ∧ s.wb < W.heap.size ∧ w.heap.size + 1 < W.heap.size := fun W hW => by
      refine ⟨(hW.cell (p := ⟨s.wb, 0, none⟩) hwl2).trans k0, (hW.cell (p := ⟨w.heap.size + 1, 3, none⟩) hx2).trans m3, (hW.cell (p := ⟨gl, i * 4 + 2, none⟩) hgl2).trans d2, ?_, Nat.lt_of_lt_of_le hgl2 hW.size, Nat.lt_of_lt_of_le hwl2 hW.size, Nat.lt_of_lt_of_le hx2 hW.size⟩
      have := (hW.block gl hgl2).trans hgc
      simp [World.frozen?, this]
    have HL2 : Hid (BOwn 0 w2 (.slice (some ⟨ga, 0, none⟩) lg.length lc) lg ∧ BOwn 0 w2 (.slice (some ⟨gb, 0, none⟩) p.pb.length pc) p.pb) := ⟨hlog2, hpb2⟩
    obtain ⟨j0, hj, y0, y1, y2⟩ := info_parts info_u8
    clear hW2 hp2 hlog2 hpb2 hlr2 hblk2 hbx2 hgc d2 hR hrq' hby e1 e2 e3 e4 e5 e6 e7 k0 m0 m1 m3
    go_wp2_with (at_builtin; go_loud (refine wpList_append_lies _ rfl (.tmp 87) (.tmp 89) 27 rfl w2.heap.size 5 j0 _ 1 1 Tryz.underlying27 hj y0 y1 y2 rfl (by decide) (.slice none 0 0) 0 [] (by simp [Act.eval, Act.put]) (World.ownsRow_nil _ _ _ _) ⟨ga, 0, none⟩ lg.length lc (lg.map byV) (by simp [Act.eval, Act.put]) (by simp) (fun j u hu => World.ownsRow.cells HL2.out.1 (g := ga) rfl j u hu) (by intro u hu; obtain ⟨x, hx, rfl⟩ := List.mem_map.1 hu; rfl) hlg0 (by unfold maxLen; omega) (by omega) (by omega) _ rfl ?_); intro g3 cap3 w3 hown hgrow hat hlt5; have H3 := after_cpL hown hgrow; obtain ⟨t0, t1, t2, t3, t4, t5, t6⟩ := sW w3 H3.out.2; clear hown hgrow hat hlt5)
    have hw23 : w2.heap.size ≤ w3.heap.size := H3.out.2.size
    have HB3 : Hid (w3.ownsRow 0 5 1 (.slice (some ⟨gb, 0, none⟩) p.pb.length pc) p.pb.length (p.pb.map byV)) := ownsRow_of_block HL2.out.2 (fun k hk _ => H3.out.2.block k hk)
    go_region_law (refine step_append_lies _ rfl (.tmp 96) (.tmp 98) 27 rfl w2.heap.size 5 j0 _ 1 1 Tryz.underlying27 hj y0 y1 y2 rfl (by decide) (.slice (some ⟨g3, 0, none⟩) lg.length cap3) lg.length (lg.map byV) (by simp [Act.eval, Act.put]) (by first | exact H3.out.1 | exact H3.out.1.drew) ⟨gb, 0, none⟩ p.pb.length pc (p.pb.map byV) (by simp [Act.eval, Act.put]) (by simp) (fun j u hu => World.ownsRow.cells HB3.out (g := gb) rfl j u hu) (by intro u hu; obtain ⟨x, hx, rfl⟩ := List.mem_map.1 hu; rfl) hpb0 (by unfold maxLen; omega) (by omega) (by simpa using hw23) _ rfl ?_; intro g4 cap4 w4 hown hgrow hat hlt5; obtain ⟨HF, hB4⟩ := after_log W2 H3 hown (grownD hgrow); obtain ⟨v0, v1, v2, v3, v4, v5, v6⟩ := sW w4 hB4; clear hown hgrow hat hlt5 hB4)
    all_goals
      go_wp2_with fail
      go_ret
      obtain ⟨ω4, p2, hW4, hs4⟩ := HF.out
      exact ⟨rfl, ω4, _, hW4, rfl, by show s.bn ≤ _; omega, by show _ ≤ ((s.ps.set _ _).set _ _).length; simp, st_set (st_set HST.out W2.out.2.2.2.2.2) hs4⟩
  · have hne : ((fe : Int) == 0) = false := by simp; omega
    have HF : Hid (WInv wz N w2 ω2 { s with ps := s.ps.set i p' } ∧ p'.st = false) := ⟨hW2, e7⟩
    clear hW2 hR e1 e2 e3 e4 e5 e6 e7
    go_wp2_with fail
    go_ret
    exact ⟨rfl, ω2, _, HF.out.1, rfl, by show s.bn ≤ _; omega, by show _ ≤ (s.ps.set _ _).length; simp, st_set HST.out HF.out.2⟩
end Go.Proofs.YtjmcokcdaddpcaaGreatDoor
