import Derived.Test.YtjmcokcdaddpcaaGreatDoorVa
set_option linter.unusedVariables false
set_option linter.unusedSimpArgs false
namespace Go.Proofs.YtjmcokcdaddpcaaGreatDoor
open Go.RowKit
section
variable {wz : World} {N : Nat} {w w' : World} {ω : Nat → Nat} {s : WS}
/-- Behind the book's texts. -/
theorem inv_texts (h : WInv wz N w ω s) {vb : Value} {B n : Nat} {xs : List Value} (hvo : w.ownsRow B 9 1 vb n xs) (hP : TextsP N w s.wb s.vl s.vbs s.vkb s.vss s.vks vb s.bn n s.sl w') (hvb : ∀ k, vb.ownBlock = some k → ω k = 2) (hn : n ≤ 3000) (hbn : s.bn < 1600000000000) :
    ∃ ω' s', WInv wz N w' ω' s' ∧ s'.wb = s.wb ∧ s'.bn = s.bn + 1 ∧ s'.ps = s.ps ∧ s'.vl = s.vl ∧ ∀ k, k < w.heap.size → ω' k = ω k := by
  obtain ⟨vss', vks', vg, vh, vj, hblk, hbs, hkb, hrd, hkp, hf1, hf2, hf3⟩ := hP
  have hb := h.bk
  have hwl : s.wb < w.heap.size := (Array.getElem?_eq_some_iff.1 hb.blk).1
  have h10 := hb.wb10
  have hSo : ∀ k, BytS s.wb s.vss s.vks vb k → ω k = 1 ∨ ω k = 2 := fun k hk => by
    rcases hk with rfl | hk | hk | hk
    · exact .inl (h.o1 _ (.inl rfl))
    · exact .inl (h.o1 _ (.inr (.inr (.inr (.inr (.inl hk))))))
    · exact .inl (h.o1 _ (.inr (.inr (.inr (.inr (.inr hk))))))
    · exact .inr (hvb k hk)
  have hT : ∀ {k : Nat} {T : TypeId} {cur : Array Value}, w.heap[k]? = some (.cells cur T (0, 0)) → T ≠ 107 → T ≠ 22 → T ≠ 3 → T ≠ 9 → ¬ BytS s.wb s.vss s.vks vb k := fun hc t1 t2 t3 t4 hS => by
    rcases hS with rfl | hS | hS | hS
    · exact t1 (cells_type hc hb.blk)
    · obtain ⟨c2, h2⟩ := own_type hb.ss hS; exact t2 (cells_type hc h2)
    · obtain ⟨c2, h2⟩ := own_type hb.ks hS; exact t3 (cells_type hc h2)
    · obtain ⟨c2, h2⟩ := own_type hvo hS; exact t4 (cells_type hc h2)
  let q : Nat → Nat := fun k => if vss'.ownBlock = some k ∨ vks'.ownBlock = some k then 1 else 2
  have h0k : ∀ k, k < 5 → w'.heap[k]? = w.heap[k]? := fun k hk => hkp.block k (by omega) (fun hS => by
    have := h.g0 k hk
    rcases hSo k hS with e | e <;> omega)
  have hnew1 : ∀ k, vss'.ownBlock = some k ∨ vks'.ownBlock = some k → ownN w ω q k = 1 := fun k hk => by
    by_cases hlt : k < w.heap.size
    · rw [ownN_old hlt]
      rcases hk with hk | hk
      · exact h.o1 _ (.inr (.inr (.inr (.inr (.inl ((hf1 k hk).resolve_right (by omega)))))))
      · exact h.o1 _ (.inr (.inr (.inr (.inr (.inr ((hf2 k hk).resolve_right (by omega)))))))
    · rw [ownN_new (by omega)]
      exact if_pos hk
  have hnew2 : ∀ e ∈ more4 vb vg vh vj (s.bn + 1) n, ∀ k, e.v.ownBlock = some k → ownN w ω q k = 2 := fun e he k hk => by
    have hrb := hrd e (List.mem_append_right _ he)
    obtain ⟨c3, h3⟩ := hrb.type hk
    by_cases hlt : k < w.heap.size
    · rw [ownN_old hlt]
      simp only [more4, List.mem_cons, List.not_mem_nil, or_false] at he
      rcases he with rfl | rfl | rfl | rfl
      · exact hvb k hk
      · exact hvb k ((hf3 k (.inl hk)).resolve_right (by omega))
      · exact hvb k ((hf3 k (.inr (.inl hk))).resolve_right (by omega))
      · exact hvb k ((hf3 k (.inr (.inr hk))).resolve_right (by omega))
    · rw [ownN_new (by omega)]
      refine if_neg ?_
      rintro (hv | hv)
      · obtain ⟨c4, h4⟩ := own_type hbs hv; exact absurd (cells_type h3 h4) (by decide)
      · obtain ⟨c4, h4⟩ := own_type hkb hv; exact absurd (cells_type h3 h4) (by decide)
  have hlen : (s.sl ++ more4 vb vg vh vj (s.bn + 1) n).length = s.sl.length + 4 := by simp [more4]
  refine ⟨ownN w ω q, { s with vss := vss', vks := vks', bn := s.bn + 1, sl := s.sl ++ more4 vb vg vh vj (s.bn + 1) n }, ⟨⟨hblk, ?_, ?_, ?_, ?_, ?_, hrd, hb.tab.same h0k, hb.wb10, by show s.bn + 1 ≤ 1600000000000; omega, ?_, ?_, ?_, ?_⟩, ?_, ?_, ?_, ?_, ?_, ?_, ?_, ?_, ?_, fl_own h.fl h.NL, h.frame hkp (fun k hS => by rcases hSo k hS with e | e <;> omega)⟩, rfl, rfl, rfl, rfl, fun k hk => ownN_old hk⟩
  · exact ownsRow_of_block hb.bs (fun k hk hv => by
      obtain ⟨c, hc⟩ := own_type hb.bs hv
      exact hkp.block k hk (hT hc (by decide) (by decide) (by decide) (by decide)))
  · exact ownsRow_of_block hb.kb (fun k hk hv => by
      obtain ⟨c, hc⟩ := own_type hb.kb hv
      refine hkp.block k hk (fun hS => ?_)
      rcases hS with rfl | hS | hS | hS
      · exact absurd (cells_type hc hb.blk) (by decide)
      · obtain ⟨c2, h2⟩ := own_type hb.ss hS; exact absurd (cells_type hc h2) (by decide)
      · exact h.ap k hv hS
      · obtain ⟨c2, h2⟩ := own_type hvo hS; exact absurd (cells_type hc h2) (by decide))
  · rw [hlen]; exact hbs
  · rw [hlen]; exact hkb
  · exact fun e he => (hb.rd e he).same hkp.size (fun k hk hv => by
      obtain ⟨c, hc⟩ := (hb.rd e he).type hv
      exact hkp.block k hk (hT hc (by decide) (by decide) (by decide) (by decide)))
  · show s.bl.length ≤ 4 * (s.bn + 1)
    have := hb.bl4
    omega
  · show (s.sl ++ more4 vb vg vh vj (s.bn + 1) n).length ≤ 4 * (s.bn + 1)
    rw [hlen]
    have := hb.sl4
    omega
  · intro e he
    show e.k ≤ s.bn + 1 ∧ e.n ≤ 3003
    have := hb.bk e he; omega
  · intro e he
    show e.k ≤ s.bn + 1 ∧ e.n ≤ 3003
    rcases List.mem_append.1 he with he | he
    · have := hb.sk e he; omega
    · simp only [more4, List.mem_cons, List.not_mem_nil, or_false] at he
      rcases he with rfl | rfl | rfl | rfl
      · exact ⟨Nat.le_refl _, by show n ≤ 3003; omega⟩
      · exact ⟨Nat.le_refl _, by show n + 1 ≤ 3003; omega⟩
      · exact ⟨Nat.le_refl _, by show n + 2 ≤ 3003; omega⟩
      · exact ⟨Nat.le_refl _, by show n + 3 ≤ 3003; omega⟩
  · exact ownsRow_of_block h.lr (fun k hk hv => by
      obtain ⟨c, hc⟩ := own_type h.lr hv
      exact hkp.block k hk (hT hc (by decide) (by decide) (by decide) (by decide)))
  · intro k hk hv
    rcases hf2 k hv with e | e
    · exact h.ap k hk e
    · have := (hb.kb.lt k hk).2; omega
  · intro k hk
    rcases hk with rfl | hk | hk | hk | hk | hk
    · rw [ownN_old hwl]; exact h.o1 _ (.inl rfl)
    · rw [ownN_old (h.lr.lt k hk).2]; exact h.o1 _ (.inr (.inl hk))
    · rw [ownN_old (hb.bs.lt k hk).2]; exact h.o1 _ (.inr (.inr (.inl hk)))
    · rw [ownN_old (hb.kb.lt k hk).2]; exact h.o1 _ (.inr (.inr (.inr (.inl hk))))
    · exact hnew1 k (.inl hk)
    · exact hnew1 k (.inr hk)
  · intro e he k hk
    rcases List.mem_append.1 he with he | he
    · obtain ⟨c, hc⟩ := (hb.rd e he).type hk
      rw [ownN_old (Array.getElem?_eq_some_iff.1 hc).1]
      exact h.o2 e (List.mem_append_left _ he) k hk
    · rcases List.mem_append.1 he with he | he
      · obtain ⟨c, hc⟩ := (hb.rs e he).type hk
        rw [ownN_old (Array.getElem?_eq_some_iff.1 hc).1]
        exact h.o2 e (List.mem_append_right _ he) k hk
      · exact hnew2 e he k hk
  · intro i p hp
    exact (h.pr i p hp).kept hkp (fun k hS hlt => by rcases hSo k hS with e | e <;> omega) q
  · intro k hk
    rw [ownN_old (by omega)]
    exact h.g0 k hk
  · exact h.sg.same hkp.size (h0k 0 (by omega))
  · exact Nat.le_trans h.NL hkp.size
  · show s.ps.length ≤ s.bn + 1
    have := h.pn
    omega
end
end Go.Proofs.YtjmcokcdaddpcaaGreatDoor
set_option linter.unusedVariables false
set_option linter.unusedSimpArgs false
namespace Go.Proofs.YtjmcokcdaddpcaaGreatDoor
open Go.RowKit
theorem stepQ_same {wz : World} {N : Nat} {w w' : World} {ω : Nat → Nat} {s : WS} (h : WInv wz N w ω s) (hb : Below w.heap.size w w') (hst : ∀ p ∈ s.ps, p.st = false) : StepQ wz N s (.returned (.bool true)) w' :=
  ⟨rfl, _, s, inv_below h hb (fun _ => 0), rfl, Nat.le_succ _, Nat.le_refl _, hst⟩
theorem Lnk.mark {c : Dsr.Cs} {rc : RC} (h : Lnk c rc) (n : List UInt8) : ∃ (d i u : Bool) (e : Int), markOf (Dsr.findE c.es n) = .agg #[.bool d, .bool i, .bool u] ∧ markOf (Dsr.findE (evsQ rc) n) = .agg #[.bool d, .bool i, .bool u] ∧ markE (Dsr.findE c.es n) = e ∧ markE (Dsr.findE (evsQ rc) n) = e := by
  have := h.al.ev n
  rcases h1 : Dsr.findE (evsQ rc) n with _ | e <;> rcases h2 : Dsr.findE c.es n with _ | e' <;> rw [h1, h2] at this
  · exact ⟨false, false, false, _, rfl, rfl, rfl, rfl⟩
  · exact this.elim
  · exact this.elim
  · exact ⟨e'.done, e'.inn, e'.due, _, rfl, by
      show markV e.done e.inn e.due = _
      have this : EvSame e e' := this
      rw [this.done, this.inn, this.due], rfl, rfl⟩
theorem cells3Q {w : World} {b : Nat} {v0 v1 v2 : Value} {T : TypeId} {fr : Nat × Nat} (h : w.heap[b]? = some (.cells #[v0, v1, v2] T fr)) : w.cell? ⟨b, 0, none⟩ = some v0 ∧ w.cell? ⟨b, 1, none⟩ = some v1 ∧ w.cell? ⟨b, 2, none⟩ = some v2 := by
  refine ⟨?_, ?_, ?_⟩ <;> simp [World.cell?, h]
/-- What a call that asks begins with. -/
structure AskIn (w : World) (s : WS) (i : Nat) (p : PSt) (la pa : Option Addr) (ln pn lc pc : Nat) : Prop where
  vs : p.vlog = .slice la ln lc ∧ p.vb = .slice pa pn pc
  cs : ∀ W : World, Below w.heap.size w W → CsAt p.M W p.cb p.c p.a p.wk
  rf : ∀ W : World, Below w.heap.size w W → RefAt W p
theorem askIn {wz : World} {N : Nat} {w : World} {ω : Nat → Nat} {s : WS} (h : WInv wz N w ω s) {i : Nat} {p : PSt} (hp : s.ps[i]? = some p) : ∃ la pa ln pn lc pc, AskIn w s i p la pa ln pn lc pc := by
  have hP := h.pr i p hp
  obtain ⟨lg, hlg, _, _⟩ := hP.rf.lg
  obtain ⟨la, lc, hvlog⟩ := owned_shape hlg
  obtain ⟨pa, pc, hvb⟩ := owned_shape hP.rf.pb
  exact ⟨la, pa, _, _, lc, pc, ⟨hvlog, hvb⟩, fun W hW => hP.pr.below hW, fun W hW => hP.rf.same hW.size (fun k hk _ => hW.block k hk)⟩
set_option maxRecDepth 100000 in
set_option maxHeartbeats 3200000 in
theorem wAsks_acc {wz : World} {N : Nat} {w : World} {ω : Nat → Nat} {s : WS} (h : WInv wz N w ω s) {i : Nat} {p : PSt} (hp : s.ps[i]? = some p) (e A C : Int) (S R : List UInt8) (ba : Option Addr) (bn bc : Nat) (hst : ∀ p ∈ s.ps, p.st = false) :
    Calls Tryz.prog 79 #[ptr s.wb, .agg #[ptr p.cb, ptr p.rb, p.vlog, p.vb], .agg #[.int .i64 8, .int .i64 e, strV S, strV R, .slice ba bn bc, .int .i64 A, .int .i64 C]] w fun x w' => StepQ wz N s x w' := by
  obtain ⟨la, pa, ln, pn, lc, pc, hIn⟩ := askIn h hp
  rw [hIn.vs.1, hIn.vs.2]
  have H : Hid (WInv wz N w ω s ∧ (∀ p ∈ s.ps, p.st = false) ∧ s.ps[i]? = some p) := ⟨h, hst, hp⟩
  have HI : Hid (AskIn w s i p la pa ln pn lc pc) := hIn
  clear h hst hp hIn
  go_enter Tryz.func79, Tryz.ntmps79
  go_wp2_with fail
  refine (accepting_any (HI.out.cs _ (((Below.refl _ _).alloc (Nat.le_refl _) _).alloc (by simp) _))).mono ?_
  have HL : Hid (Dsr.acceptingP (evsQ p.rc) = Dsr.acceptingP p.c.es) := (H.out.1.pr i p H.out.2.2).lk.al.accepting
  obtain ⟨b, hb⟩ : ∃ b, b = Dsr.acceptingP p.c.es := ⟨_, rfl⟩
  rintro y w1 ⟨hy, b1⟩
  rw [← hb] at hy
  subst hy
  have HB : Hid (b = Dsr.acceptingP p.c.es) := hb
  clear hb
  have hw1 : Below w.heap.size w w1 := (((Below.refl _ _).alloc (Nat.le_refl _) _).alloc (by simp) _).trans (b1.mono (by simp; omega))
  obtain ⟨x0, x1, hx1⟩ := boxes ((Kp.refl (fun _ => False) _).ofBelow b1) (fun k hk => hk.elim)
  obtain ⟨z0, z1, z2, z3⟩ := cells4 x0
  have H1 : Hid (Below w.heap.size w w1) := hw1
  clear b1 hw1
  go_wp2_with fail
  refine (rcAccepting_any (HI.out.rf _ H1.out).rc).mono ?_
  rintro y w2 ⟨hy, b2⟩
  rw [HL.out, ← HB.out] at hy
  subst hy
  have H2 : Hid (Below w.heap.size w w2) := H1.out.trans (b2.mono H1.out.size)
  clear b2
  go_wp2_with fail
  go_ret
  exact stepQ_same H.out.1 H2.out H.out.2.1
set_option maxRecDepth 100000 in
set_option maxHeartbeats 3200000 in
theorem wAsks_head {wz : World} {N : Nat} {w : World} {ω : Nat → Nat} {s : WS} (h : WInv wz N w ω s) {i : Nat} {p : PSt} (hp : s.ps[i]? = some p) (e A C : Int) (S R : List UInt8) (ba : Option Addr) (bn bc : Nat) (hst : ∀ p ∈ s.ps, p.st = false) :
    Calls Tryz.prog 79 #[ptr s.wb, .agg #[ptr p.cb, ptr p.rb, p.vlog, p.vb], .agg #[.int .i64 9, .int .i64 e, strV S, strV R, .slice ba bn bc, .int .i64 A, .int .i64 C]] w fun x w' => StepQ wz N s x w' := by
  obtain ⟨la, pa, ln, pn, lc, pc, hIn⟩ := askIn h hp
  rw [hIn.vs.1, hIn.vs.2]
  have H : Hid (WInv wz N w ω s ∧ (∀ p ∈ s.ps, p.st = false) ∧ s.ps[i]? = some p) := ⟨h, hst, hp⟩
  have HI : Hid (AskIn w s i p la pa ln pn lc pc) := hIn
  clear h hst hp hIn
  go_enter Tryz.func79, Tryz.ntmps79
  go_wp2_with fail
  refine (head_any (HI.out.cs _ (((Below.refl _ _).alloc (Nat.le_refl _) _).alloc (by simp) _))).mono ?_
  have HL : Hid (numQ (p.rc.log.drop (p.rc.log.length - 4)) = p.c.hash) := by
    have hl := (H.out.1.pr i p H.out.2.2).lk
    show _ = _
    rw [hl.hash, numQ_four _ hl.hlt]
  have hbl : ((p.c.hash : Nat) : Int) < 4294967296 := by have := (H.out.1.pr i p H.out.2.2).lk.hlt; omega
  obtain ⟨b, hb⟩ : ∃ b, b = p.c.hash := ⟨_, rfl⟩
  rintro y w1 ⟨hy, b1⟩
  rw [← hb] at hy hbl
  subst hy
  have HB : Hid (b = p.c.hash) := hb
  clear hb
  have hw1 : Below w.heap.size w w1 := (((Below.refl _ _).alloc (Nat.le_refl _) _).alloc (by simp) _).trans (b1.mono (by simp; omega))
  obtain ⟨x0, x1, hx1⟩ := boxes ((Kp.refl (fun _ => False) _).ofBelow b1) (fun k hk => hk.elim)
  obtain ⟨z0, z1, z2, z3⟩ := cells4 x0
  have H1 : Hid (Below w.heap.size w w1) := hw1
  clear b1 hw1
  go_wp2_with fail
  refine (rcHead_any (HI.out.rf _ H1.out).rc).mono ?_
  rintro y w2 ⟨hy, b2⟩
  rw [HL.out, ← HB.out] at hy
  subst hy
  have H2 : Hid (Below w.heap.size w w2) := H1.out.trans (b2.mono H1.out.size)
  clear b2
  go_wp2_with fail
  go_ret
  exact stepQ_same H.out.1 H2.out H.out.2.1
set_option maxRecDepth 100000 in
set_option maxHeartbeats 3200000 in
theorem wAsks_mark {wz : World} {N : Nat} {w : World} {ω : Nat → Nat} {s : WS} (h : WInv wz N w ω s) {i : Nat} {p : PSt} (hp : s.ps[i]? = some p) (e A C : Int) (S R : List UInt8) (ba : Option Addr) (bn bc : Nat) (hst : ∀ p ∈ s.ps, p.st = false) :
    Calls Tryz.prog 79 #[ptr s.wb, .agg #[ptr p.cb, ptr p.rb, p.vlog, p.vb], .agg #[.int .i64 6, .int .i64 e, strV S, strV R, .slice ba bn bc, .int .i64 A, .int .i64 C]] w fun x w' => StepQ wz N s x w' := by
  obtain ⟨la, pa, ln, pn, lc, pc, hIn⟩ := askIn h hp
  rw [hIn.vs.1, hIn.vs.2]
  have H : Hid (WInv wz N w ω s ∧ (∀ p ∈ s.ps, p.st = false) ∧ s.ps[i]? = some p) := ⟨h, hst, hp⟩
  have HI : Hid (AskIn w s i p la pa ln pn lc pc) := hIn
  clear h hst hp hIn
  go_enter Tryz.func79, Tryz.ntmps79
  go_wp2_with fail
  refine (mark_any (HI.out.cs _ (((Below.refl _ _).alloc (Nat.le_refl _) _).alloc (by simp) _)) S).mono ?_
  obtain ⟨d, n, u, f, m1, m2, m3, m4⟩ := (H.out.1.pr i p H.out.2.2).lk.mark S
  rintro y w1 ⟨hy, b1⟩
  rw [m1, m3] at hy
  subst hy
  have HM : Hid (markOf (Dsr.findE (evsQ p.rc) S) = .agg #[.bool d, .bool n, .bool u] ∧ markE (Dsr.findE (evsQ p.rc) S) = f) := ⟨m2, m4⟩
  clear m1 m2 m3 m4
  have hw1 : Below w.heap.size w w1 := (((Below.refl _ _).alloc (Nat.le_refl _) _).alloc (by simp) _).trans (b1.mono (by simp; omega))
  obtain ⟨x0, x1, hx1⟩ := boxes ((Kp.refl (fun _ => False) _).ofBelow b1) (fun k hk => hk.elim)
  obtain ⟨z0, z1, z2, z3⟩ := cells4 x0
  obtain ⟨y2, y3⟩ := cells7 x1
  have hx0 : w.heap.size < w1.heap.size := by omega
  have H1 : Hid (Below w.heap.size w w1) := hw1
  clear b1 hw1
  go_wp2_with fail
  refine (rcMark_any (HI.out.rf _ (H1.out.alloc H1.out.size _)).rc S).mono ?_
  rintro y w2 ⟨hy, b2⟩
  rw [HM.out.1, HM.out.2] at hy
  subst hy
  have q1 : w2.heap[w1.heap.size]? = some (.cells #[.bool d, .bool n, .bool u] 48 (0, 0)) := (b2.block _ (by simp)).trans (heap_alloc_new _ _)
  obtain ⟨v0, v1, v2⟩ := cells3Q q1
  have hw2 : w1.heap.size < w2.heap.size := (Array.getElem?_eq_some_iff.1 q1).1
  have H2 : Hid (Below w.heap.size w w2) := (H1.out.alloc H1.out.size _).trans (b2.mono (by have := H1.out.size; simp; omega))
  clear b2 q1
  go_wp2_with fail
  go_ret
  exact stepQ_same H.out.1 (H2.out.alloc H2.out.size _) H.out.2.1
end Go.Proofs.YtjmcokcdaddpcaaGreatDoor
set_option linter.unusedVariables false
set_option linter.unusedSimpArgs false
namespace Go.Proofs.YtjmcokcdaddpcaaGreatDoor
open Go.RowKit
set_option maxRecDepth 100000 in
set_option maxHeartbeats 3200000 in
theorem wAsks_enabled {wz : World} {N : Nat} {w : World} {ω : Nat → Nat} {s : WS} (h : WInv wz N w ω s) {i : Nat} {p : PSt} (hp : s.ps[i]? = some p) (e A C : Int) (S R : List UInt8) (ba : Option Addr) (bn bc : Nat) (hbn : s.bn < 1600000000000) (hst : ∀ p ∈ s.ps, p.st = false) :
    Calls Tryz.prog 79 #[ptr s.wb, .agg #[ptr p.cb, ptr p.rb, p.vlog, p.vb], .agg #[.int .i64 7, .int .i64 e, strV S, strV R, .slice ba bn bc, .int .i64 A, .int .i64 C]] w fun x w' => StepQ wz N s x w' := by
  obtain ⟨la, pa, ln, pn, lc, pc, hIn⟩ := askIn h hp
  rw [hIn.vs.1, hIn.vs.2]
  have H : Hid (WInv wz N w ω s ∧ (∀ p ∈ s.ps, p.st = false) ∧ s.ps[i]? = some p) := ⟨h, hst, hp⟩
  have HI : Hid (AskIn w s i p la pa ln pn lc pc) := hIn
  clear h hst hp hIn
  go_enter Tryz.func79, Tryz.ntmps79
  go_wp2_with fail
  refine (enabled_any (HI.out.cs _ (((Below.refl _ _).alloc (Nat.le_refl _) _).alloc (by simp) _)) R).mono ?_
  have HL : Hid (Lnk p.c p.rc) := (H.out.1.pr i p H.out.2.2).lk
  obtain ⟨X, hX⟩ : ∃ X, X = Dsr.enabledP p.c.es p.c.rs R := ⟨_, rfl⟩
  have hXl : X.length ≤ 1000 := by
    rw [hX]
    unfold Dsr.enabledP
    rw [List.length_map]
    exact Nat.le_trans (List.length_filter_le _ _) (H.out.1.pr i p H.out.2.2).pr.ok.g.esl
  rintro y w1 ⟨v, rfl, hv, b1⟩
  rw [← hX] at hv
  have HX : Hid (X = Dsr.enabledP p.c.es p.c.rs R) := hX
  clear hX
  have hXz : (X.length : Int) ≤ 1000 := by omega
  obtain ⟨va, vc, rfl⟩ := owned_shape hv
  have hw1 : Below w.heap.size w w1 := (((Below.refl _ _).alloc (Nat.le_refl _) _).alloc (by simp) _).trans (b1.mono (by simp; omega))
  obtain ⟨x0, x1, hx1⟩ := boxes ((Kp.refl (fun _ => False) _).ofBelow b1) (fun k hk => hk.elim)
  obtain ⟨z0, z1, z2, z3⟩ := cells4 x0
  obtain ⟨y2, y3⟩ := cells7 x1
  have H1 : Hid (Below w.heap.size w w1 ∧ w1.ownsRow w.heap.size 9 1 (.slice va X.length vc) X.length (X.map strV)) := ⟨hw1, own_mono hv (by simp; omega)⟩
  clear b1 hw1 hv
  go_wp2_with fail
  refine (rcEnabled_any (HI.out.rf _ H1.out.1).rc R).mono ?_
  rintro y w2 ⟨v, out, rfl, ⟨ho1, ho2⟩, hv, b2⟩
  have hout : out = X := by
    have := HL.out.al.enabled HL.out.so HL.out.ne ho1 (role := R) (fun x => by rw [ho2, enQ_eq HL.out.sg HL.out.al.nd])
    rw [this, HX.out]
  subst hout
  clear ho1 ho2
  obtain ⟨ua, uc, rfl⟩ := owned_shape hv
  have H2 : Hid (Below w.heap.size w w2 ∧ w2.ownsRow w.heap.size 9 1 (.slice va out.length vc) out.length (out.map strV) ∧ w2.ownsRow 0 9 1 (.slice ua out.length uc) out.length (out.map strV)) := ⟨H1.out.1.trans (b2.mono H1.out.1.size), ownsRow_of_block H1.out.2 (fun k hk _ => b2.block k hk), own_mono hv (Nat.zero_le _)⟩
  clear b2 hv x0 x1 z0 z1 z2 z3 y2 y3
  go_wp2_with fail
  go_loopg [14, 13] out.length (fun g i ok wr => ∃ k : Nat, i = .int .i64 k ∧ k + g = out.length ∧ ok = .bool true ∧ Below w2.heap.size w2 wr)
  case atStart => exact ⟨0, rfl, by omega, rfl, Below.refl _ _⟩
  case round =>
    obtain ⟨k, rfl, hk, rfl, hb⟩ := hrel
    by_cases hlt : k < out.length
    · obtain ⟨t, ht⟩ : ∃ t, out[k]? = some t := ⟨_, List.getElem?_eq_getElem hlt⟩
      have hr1 := ownsRow_of_block H2.out.2.1 (fun k hk _ => hb.block k hk)
      have hr2 := ownsRow_of_block H2.out.2.2 (fun k hk _ => hb.block k hk)
      obtain ⟨ga, rfl, _, _⟩ := own_some hr1 (by omega)
      obtain ⟨gb, rfl, _, _⟩ := own_some hr2 (by omega)
      have c1 := own_at hr1 (j := k) (u := strV t) (by rw [List.getElem?_map, ht]; rfl)
      have c2 := own_at hr2 (j := k) (u := strV t) (by rw [List.getElem?_map, ht]; rfl)
      have HB : Hid (Below w2.heap.size w2 wr) := hb
      clear hr1 hr2 hb ht
      go_wp2_with fail
      go_quiet (fail)
      go_wp2_with fail
      go_roundg (out.length - (k + 1))
      case measure => omega
      case rel => exact ⟨k + 1, by go_num, by omega, rfl, HB.out.trans ⟨rfl, rfl, rfl, Nat.le_refl _, fun _ _ => rfl⟩⟩
    · have hke : k = out.length := by omega
      subst hke
      have hwr : Below w.heap.size w wr := H2.out.1.trans (hb.mono H2.out.1.size)
      have W : Hid (WInv wz N wr (ownN w ω fun _ => 2) s) := inv_below H.out.1 hwr _
      have HV : Hid (wr.ownsRow w.heap.size 9 1 (.slice va out.length vc) out.length (out.map strV)) := ownsRow_of_block H2.out.2.1 (fun k hk _ => hb.block k hk)
      have hs : w.heap.size ≤ wr.heap.size := hwr.size
      clear hb hwr
      go_wp2_with fail
      refine (bTexts_any W.out.bk.blk W.out.bk.ss W.out.bk.ks W.out.bk.rs HV.out (fun e he x hx hn => by
        obtain ⟨cc, hcc⟩ := (H.out.1.bk.rs e he).type hx
        have := (Array.getElem?_eq_some_iff.1 hcc).1
        have := (World.ownsRow.lt HV.out x hn).1
        omega) (by omega) (by have := H.out.1.bk.sl4; omega) (by omega) W.out.NL hs W.out.bk.tab W.out.bk.wb10).mono ?_
      rintro y w3 ⟨rfl, hP⟩
      have HF : Hid (∃ ω' s', WInv wz N w3 ω' s' ∧ s'.wb = s.wb ∧ s'.bn = s.bn + 1 ∧ s'.ps = s.ps ∧ s'.vl = s.vl ∧ ∀ k, k < wr.heap.size → ω' k = (ownN w ω fun _ => 2) k) := inv_texts W.out HV.out hP (fun k hk => by rw [ownN_new (World.ownsRow.lt HV.out k hk).1]) (by omega) hbn
      clear hP
      go_wp2_with fail
      go_ret
      obtain ⟨ω', s', h1, h2, h3, h4, _⟩ := HF.out
      exact ⟨rfl, ω', s', h1, h2, by omega, by rw [h4]; exact Nat.le_refl _, by rw [h4]; exact H.out.2.1⟩
end Go.Proofs.YtjmcokcdaddpcaaGreatDoor
