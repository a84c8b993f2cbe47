import Derived.Test.YtjmcokcdaddpcaaGreatDoorUr
import Derived.Test.YtjmcokcdaddpcaaGreatDoorRsK
import Derived.Test.YtjmcokcdaddpcaaGreatDoorUu
import Derived.Test.YtjmcokcdaddpcaaGreatDoorUe
import Derived.Test.YtjmcokcdaddpcaaGreatDoorLwF
set_option linter.unusedVariables false
set_option linter.unusedSimpArgs false
namespace Go.Proofs.YtjmcokcdaddpcaaGreatDoor
open Go.RowKit
/-- The document's rules, as the program has them. -/
abbrev rulQ (l : LK) : List Dsr.Rl := l.rules.map toRl
theorem hasRl_eq {l : LK} (hs : ∀ r ∈ l.rules, 1 ≤ r.sign ∧ r.sign ≤ 5) (k : Nat) (a b : List UInt8) : Dsr.hasRl (rulQ l) k a b = hasR l.rules ((k : Int) + 1) a b := by
  unfold Dsr.hasRl hasR rulQ
  rw [List.any_map, Bool.eq_iff_iff, List.any_eq_true, List.any_eq_true]
  constructor
  · rintro ⟨r, hr, h⟩
    refine ⟨r, hr, ?_⟩
    simp only [Function.comp, toRl, Bool.and_eq_true, decide_eq_true_eq, beq_iff_eq] at h ⊢
    have := hs r hr
    have h3 : r.sign - 1 = k := of_decide_eq_true h.1.1
    exact ⟨⟨by omega, h.1.2⟩, h.2⟩
  · rintro ⟨r, hr, h⟩
    refine ⟨r, hr, ?_⟩
    simp only [Function.comp, toRl, Bool.and_eq_true, decide_eq_true_eq, beq_iff_eq] at h ⊢
    have := hs r hr
    have h3 : (r.sign : Int) = (k : Int) + 1 := h.1.1
    exact ⟨⟨decide_eq_true (show r.sign - 1 = k by omega), h.1.2⟩, h.2⟩
theorem doneQ_eq {l : LK} (hs : ∀ r ∈ l.rules, 1 ≤ r.sign ∧ r.sign ≤ 5) (n : List UInt8) (e : Dsr.Ev) : doneQ l.rules n e = Dsr.doneE (rulQ l) n e := by
  unfold doneQ Dsr.doneE
  rw [hasRl_eq hs, hasRl_eq hs, hasRl_eq hs]
  rfl
theorem blocked_eq {l : LK} {evs : List Dsr.Ev} (hs : ∀ r ∈ l.rules, 1 ≤ r.sign ∧ r.sign ≤ 5) (hn : (nms evs).Nodup) (ev : List UInt8) : evs.any (blockQ l.rules ev) = Dsr.blockedP evs (rulQ l) ev := by
  have h1 : ∀ a b, hasR l.rules 1 a b = Dsr.hasRl (rulQ l) 0 a b := fun a b => (hasRl_eq hs 0 a b).symm
  have h2 : ∀ a b, hasR l.rules 2 a b = Dsr.hasRl (rulQ l) 1 a b := fun a b => (hasRl_eq hs 1 a b).symm
  rw [Bool.eq_iff_iff]
  unfold Dsr.blockedP
  rw [List.any_eq_true, List.any_eq_true]
  constructor
  · rintro ⟨e, he, hb⟩
    unfold blockQ at hb
    rw [h1, h2] at hb
    simp only [Bool.and_eq_true, Bool.or_eq_true, Bool.not_eq_true'] at hb
    have hf := findE_mem hn he
    rcases hb.2 with hb2 | hb2
    · unfold Dsr.hasRl at hb2
      obtain ⟨r, hr, h⟩ := List.any_eq_true.1 hb2.1
      simp only [Bool.and_eq_true, decide_eq_true_eq, beq_iff_eq] at h
      refine ⟨r, hr, ?_⟩
      unfold Dsr.blocksR
      rw [h.1.2, hf]
      simp [h.2, h.1.1, Dsr.hinders, hb.1, hb2.2]
    · unfold Dsr.hasRl at hb2
      obtain ⟨r, hr, h⟩ := List.any_eq_true.1 hb2.1
      simp only [Bool.and_eq_true, decide_eq_true_eq, beq_iff_eq] at h
      refine ⟨r, hr, ?_⟩
      unfold Dsr.blocksR
      rw [h.1.2, hf]
      simp [h.2, h.1.1, Dsr.hinders, hb.1, hb2.2]
  · rintro ⟨r, hr, h⟩
    simp only [Bool.and_eq_true, beq_iff_eq] at h
    unfold Dsr.blocksR at h
    rcases hf : Dsr.findE evs r.left with _ | e <;> rw [hf] at h
    · simp at h
    · obtain ⟨he, hne⟩ := findE_some hf
      refine ⟨e, he, ?_⟩
      unfold blockQ
      rw [h1, h2]
      have hh : Dsr.hinders r.kind e = true := h.2
      have hmem : ∀ k, r.kind = k → Dsr.hasRl (rulQ l) k e.name ev = true := fun k hk => by
        unfold Dsr.hasRl
        rw [List.any_eq_true]
        exact ⟨r, hr, by simp [hk, hne, h.1]⟩
      unfold Dsr.hinders at hh
      by_cases hk0 : r.kind = 0
      · rw [if_pos hk0] at hh
        rw [hmem 0 hk0]
        simp only [Bool.and_eq_true, Bool.not_eq_true'] at hh
        simp [hh.1, hh.2]
      · by_cases hk1 : r.kind = 1
        · rw [if_neg hk0, if_pos hk1] at hh
          rw [hmem 1 hk1]
          simp only [Bool.and_eq_true] at hh
          simp [hh.1, hh.2]
        · rw [if_neg hk0, if_neg hk1] at hh
          cases hh
theorem says_eq {l : LK} {evs : List Dsr.Ev} (hs : ∀ r ∈ l.rules, 1 ≤ r.sign ∧ r.sign ≤ 5) (hn : (nms evs).Nodup) (role ev : List UInt8) : saysQ l evs role ev = Dsr.verdictP evs (rulQ l) role ev := by
  unfold saysQ Dsr.verdictP Dsr.findE
  rw [blocked_eq hs hn]
  rfl
theorem nextQ_eq {l : LK} {evs : List Dsr.Ev} (hs : ∀ r ∈ l.rules, 1 ≤ r.sign ∧ r.sign ≤ 5) (hn : (nms evs).Nodup) (role ev : List UInt8) : nextQ l evs (role, ev) = if Dsr.verdictP evs (rulQ l) role ev = 0 then Dsr.doP (rulQ l) ev evs else evs := by
  unfold nextQ
  rw [says_eq hs hn, Dsr.doP_map]
  have : evs.map (doneQ l.rules ev) = evs.map (Dsr.doneE (rulQ l) ev) := List.map_congr_left fun e _ => doneQ_eq hs ev e
  rw [this]
theorem enQ_eq {l : LK} {evs : List Dsr.Ev} (hs : ∀ r ∈ l.rules, 1 ≤ r.sign ∧ r.sign ≤ 5) (hn : (nms evs).Nodup) (role : List UInt8) : enQ l evs role evs.length = Dsr.enabledP evs (rulQ l) role := by
  unfold enQ Dsr.enabledP
  rw [List.take_length]
  congr 1
  refine List.filter_congr fun e _ => ?_
  rw [says_eq hs hn]
theorem byte_toNat (n : Nat) : (Dsr.byte n).toNat = n % 256 := by
  unfold Dsr.byte
  simp [UInt8.toNat_ofNat']
theorem numQ_four (h : Nat) (hh : h < 4294967296) : numQ (Dsr.four h) = h := by
  unfold numQ Dsr.four
  simp only [List.foldl_cons, List.foldl_nil, byte_toNat]
  omega
theorem four_inj {a b : Nat} (ha : a < 4294967296) (hb : b < 4294967296) (h : Dsr.four a = Dsr.four b) : a = b := by
  rw [← numQ_four a ha, ← numQ_four b hb, h]
/-- The two cases stand alike. -/
structure Lnk (c : Dsr.Cs) (rc : RC) : Prop where
  sg : ∀ r ∈ rc.l.rules, 1 ≤ r.sign ∧ r.sign ≤ 5
  al : Alike (evsQ rc) c.es (rulQ rc.l) c.rs
  so : (nms c.es).Pairwise (· < ·)
  ne : ∀ n ∈ nms c.es, n ≠ []
  num : c.num = rc.reqs.length
  len : c.len = rc.log.length
  hash : rc.log.drop (rc.log.length - 4) = Dsr.four c.hash
  hlt : c.hash < 4294967296
  wt0 : c.wait = none → rc.bytes = []
  wt : ∀ q, c.wait = some q → rc.bytes ≠ [] ∧ q.ev = rc.we ∧ q.verdict = Dsr.verdictP c.es c.rs rc.wr rc.we ∧ q.num = c.num + 1 ∧ q.len = c.len + rc.bytes.length ∧ 4 ≤ rc.bytes.length ∧ rc.bytes.drop (rc.bytes.length - 4) = Dsr.four q.hash ∧ q.hash < 4294967296
theorem Lnk.verdict {c : Dsr.Cs} {rc : RC} (h : Lnk c rc) (role ev : List UInt8) : saysQ rc.l (evsQ rc) role ev = Dsr.verdictP c.es c.rs role ev := (says_eq h.sg h.al.nd role ev).trans (h.al.verdict role ev)
theorem Lnk.rcd {c : Dsr.Cs} {rc : RC} (h : Lnk c rc) (role ev : List UInt8) : recQ rc.reqs.length rc.log role ev (saysQ rc.l (evsQ rc) role ev) = Dsr.recP c role ev := by
  unfold recQ Dsr.recP Dsr.recOf
  rw [h.hash, h.verdict, h.num]
theorem sealed_last (b : List UInt8) : (Dsr.sealed b).drop ((Dsr.sealed b).length - 4) = Dsr.four (Dsr.hash b) := by
  rw [Dsr.sealed_len, Nat.add_sub_cancel]
  unfold Dsr.sealed
  rw [List.drop_left]
theorem Lnk.asked {c : Dsr.Cs} {rc : RC} (h : Lnk c rc) {role ev : List UInt8} (vd : Nat) (r : List UInt8) (hs : Nat) (hv : vd = Dsr.verdictP c.es c.rs role ev) (hr : 4 ≤ r.length) (hl : r.drop (r.length - 4) = Dsr.four hs) (hh : hs < 4294967296) :
    Lnk { c with wait := some ⟨ev, vd, c.num + 1, c.len + r.length, hs⟩ } { rc with wr := role, we := ev, bytes := r } := by
  refine ⟨h.sg, h.al, h.so, h.ne, h.num, h.len, h.hash, h.hlt, (fun e => by cases e), fun q hq => ?_⟩
  have hq : q = ⟨ev, vd, c.num + 1, c.len + r.length, hs⟩ := (Option.some.inj hq).symm
  subst hq
  refine ⟨?_, rfl, hv, rfl, rfl, hr, hl, hh⟩
  intro e
  have e : r = [] := e
  rw [e] at hr
  simp at hr
/-- Ask of both: the same answers, and they stand alike. -/
theorem Lnk.ask {c : Dsr.Cs} {rc : RC} (h : Lnk c rc) (role ev : List UInt8) : (askQ rc role ev).1 = (Dsr.askP c role ev).1 ∧ (askQ rc role ev).2.1 = (Dsr.askP c role ev).2.1 ∧ (askQ rc role ev).2.2.1 = (Dsr.askP c role ev).2.2.1 ∧ Lnk (Dsr.askP c role ev).2.2.2 (askQ rc role ev).2.2.2 := by
  have hv := h.verdict role ev
  have hr := h.rcd role ev
  unfold askQ Dsr.askP
  by_cases h1 : 0 < rc.bytes.length
  · have hw : c.wait.isSome = true := by
      rcases hc : c.wait with _ | q
      · have := h.wt0 hc
        rw [this] at h1
        simp at h1
      · rfl
    rw [if_pos h1, if_pos hw]
    exact ⟨rfl, rfl, rfl, h⟩
  · have hw : ¬ c.wait.isSome = true := by
      intro hs
      obtain ⟨q, hq⟩ := Option.isSome_iff_exists.1 hs
      have := (h.wt q hq).1
      exact h1 (List.length_pos_iff.2 this)
    rw [if_neg h1, if_neg hw]
    by_cases h2 : 8 < role.length ∨ 8 < ev.length
    · rw [if_pos h2, if_pos h2]
      exact ⟨rfl, rfl, rfl, h⟩
    · rw [if_neg h2, if_neg h2, hr, hv, ← h.len]
      by_cases h3 : 2000 < c.len + (Dsr.sealed (Dsr.recP c role ev)).length
      · rw [if_pos h3, if_pos h3]
        exact ⟨rfl, rfl, rfl, h⟩
      · rw [if_neg h3, if_neg h3]
        refine ⟨rfl, rfl, rfl, h.asked (Dsr.verdictP c.es c.rs role ev) (Dsr.sealed (Dsr.recP c role ev)) (Dsr.hash (Dsr.recP c role ev)) rfl ?_ (sealed_last _) (Dsr.hash_lt _)⟩
        rw [Dsr.sealed_len]; omega
theorem Lnk.settle {c : Dsr.Cs} {rc : RC} (h : Lnk c rc) : (settleQ rc).1 = (Dsr.settleP c).1 ∧ Lnk (Dsr.settleP c).2 (settleQ rc).2 := by
  unfold settleQ Dsr.settleP
  rcases hc : c.wait with _ | q
  · have := h.wt0 hc
    rw [if_pos (by rw [this]; rfl)]
    exact ⟨rfl, h⟩
  · obtain ⟨w1, w2, w3, w4, w5, w6, w7, w8⟩ := h.wt q hc
    rw [if_neg (by intro e; exact w1 (List.eq_nil_of_length_eq_zero e))]
    have hev : evsQ { rc with reqs := rc.reqs ++ [(rc.wr, rc.we)], log := rc.log ++ rc.bytes, bytes := [] } = nextQ rc.l (evsQ rc) (rc.wr, rc.we) := marksQ_snoc _ _ _
    refine ⟨rfl, ⟨h.sg, ?_, ?_, ?_, ?_, ?_, ?_, w8, fun _ => rfl, fun q hq => by cases hq⟩⟩
    · rw [hev, nextQ_eq h.sg h.al.nd, h.al.verdict, ← w3]
      show Alike _ (if q.verdict = 0 then Dsr.doP c.rs q.ev c.es else c.es) _ c.rs
      by_cases hv : q.verdict = 0
      · rw [if_pos hv, if_pos hv, w2]
        exact h.al.doP rc.we
      · rw [if_neg hv, if_neg hv]
        exact h.al
    · show (nms (if q.verdict = 0 then Dsr.doP c.rs q.ev c.es else c.es)).Pairwise (· < ·)
      split
      · rw [Dsr.doP_map, nms_map (doneE_name _ _)]; exact h.so
      · exact h.so
    · show ∀ n ∈ nms (if q.verdict = 0 then Dsr.doP c.rs q.ev c.es else c.es), n ≠ []
      split
      · rw [Dsr.doP_map, nms_map (doneE_name _ _)]; exact h.ne
      · exact h.ne
    · show q.num = (rc.reqs ++ [(rc.wr, rc.we)]).length
      rw [w4, h.num, List.length_append]; rfl
    · show q.len = (rc.log ++ rc.bytes).length
      rw [w5, h.len, List.length_append]
    · show (rc.log ++ rc.bytes).drop ((rc.log ++ rc.bytes).length - 4) = Dsr.four q.hash
      rw [← w7, List.length_append, List.drop_append, List.drop_eq_nil_of_le (by omega), List.nil_append]
      congr 1
      omega
end Go.Proofs.YtjmcokcdaddpcaaGreatDoor
set_option linter.unusedVariables false
set_option linter.unusedSimpArgs false
namespace Go.Proofs.YtjmcokcdaddpcaaGreatDoor
open Go.RowKit
/-- What is enabled among the first events. -/
def enK (es : List Dsr.Ev) (rs : List Dsr.Rl) (role : List UInt8) (k : Nat) : List (List UInt8) := ((es.take k).filter fun e => decide (Dsr.verdictP es rs role e.name = 0)).map (·.name)
theorem enK_yes {es : List Dsr.Ev} {rs : List Dsr.Rl} {role : List UInt8} {k : Nat} {e : Dsr.Ev} (he : es[k]? = some e) (hv : Dsr.verdictP es rs role e.name = 0) : enK es rs role (k + 1) = enK es rs role k ++ [e.name] := by
  unfold enK
  rw [List.take_add_one, he, List.filter_append, List.map_append]
  simp [hv]
theorem enK_no {es : List Dsr.Ev} {rs : List Dsr.Rl} {role : List UInt8} {k : Nat} {e : Dsr.Ev} (he : es[k]? = some e) (hv : ¬ Dsr.verdictP es rs role e.name = 0) : enK es rs role (k + 1) = enK es rs role k := by
  unfold enK
  rw [List.take_add_one, he, List.filter_append, List.map_append]
  simp [hv]
theorem enK_len (es : List Dsr.Ev) (rs : List Dsr.Rl) (role : List UInt8) (k : Nat) : (enK es rs role k).length ≤ k := by
  unfold enK
  rw [List.length_map]
  refine Nat.le_trans (List.length_filter_le _ _) ?_
  simp
  omega
section
variable {N : Nat} {w : World} {es : List Dsr.Ev} {rs : List Dsr.Rl} {a : SA}
set_option maxRecDepth 100000 in
set_option maxHeartbeats 1600000 in
theorem stEnabled_any (h : StAt N w es rs a) (hg : GOk es rs) (role : List UInt8) :
    Calls Tryz.prog 62 #[ptr a.sb, strV role] w fun x w' => ∃ v, x = .returned v ∧ w'.ownsRow w.heap.size 9 1 v (Dsr.enabledP es rs role).length ((Dsr.enabledP es rs role).map strV) ∧ Below w.heap.size w w' := by
  obtain ⟨ae, ce, ar, cr, hve, hvr⟩ := h.shapes
  have hblk := h.blk
  rw [hve, hvr] at hblk
  obtain ⟨c0, c1, fz⟩ := cells2 hblk
  have H : Hid (StAt N w es rs a ∧ a.ve = .slice ae es.length ce ∧ GOk es rs) := ⟨h, hve, hg⟩
  have hz : (es.length : Int) ≤ 1000 := by have := hg.esl; omega
  have hsb := h.sbLt.2
  obtain ⟨i0, hi0, hz0, hz1, hz2⟩ := info_parts Tryz.infoStr
  clear h hg hve hvr hblk
  go_enter Tryz.func62, Tryz.ntmps62
  go_wp2_with fail
  go_loopg [5, 13] es.length (fun g v i wr => ∃ k : Nat, i = .int .i64 k ∧ k + g = es.length ∧ wr.ownsRow w.heap.size 9 1 v (enK es rs role k).length ((enK es rs role k).map strV) ∧ Below w.heap.size w wr)
  case atStart => exact ⟨0, rfl, by omega, World.ownsRow_nil _ _ _ _, Below.refl _ _⟩
  case round =>
    obtain ⟨k, rfl, hk, hown, hb⟩ := hrel
    obtain ⟨ao, co, rfl⟩ := owned_shape hown
    by_cases hi : k < es.length
    · obtain ⟨e, he⟩ : ∃ e, es[k]? = some e := ⟨_, List.getElem?_eq_getElem hi⟩
      obtain ⟨g, b, v, rfl, h1, h2, hb1, hv1, d0, hbl, hbk⟩ := (H.out.1.below hb).evAt H.out.2.1 he
      obtain ⟨e0, e1, e2, e3, e4, ef⟩ := evB_cells hbk
      obtain ⟨j, rfl⟩ : ∃ j, gk = j + 1 := ⟨gk - 1, by omega⟩
      have hel := enK_len es rs role k
      obtain ⟨out, hout⟩ : ∃ out, out = enK es rs role k := ⟨_, rfl⟩
      rw [← hout] at hown hel ⊢
      have HR : Hid (wr.ownsRow w.heap.size 9 1 (.slice ao out.length co) out.length (out.map strV) ∧ Below w.heap.size w wr ∧ es[k]? = some e ∧ StAt N wr es rs a ∧ out = enK es rs role k ∧ wr.heap[b]? = some (evB e v)) := ⟨hown, hb, he, H.out.1.below hb, hout, hbk⟩
      clear hown hb he hout hb1 hv1 e1 e2 e3 e4 hbk
      go_wp2_with fail
      refine (verdict_any HR.out.2.2.2.1 H.out.2.2 role e.name).mono ?_
      rintro y w2 ⟨rfl, b2⟩
      obtain ⟨f0, f1, f2, f3, f4, ff⟩ := evB_cells (ev_below HR.out.2.2.2.2.2 b2)
      have hbl2 : b < w2.heap.size := Nat.lt_of_lt_of_le hbl b2.size
      have HB2 : Hid (w2.ownsRow w.heap.size 9 1 (.slice ao out.length co) out.length (out.map strV) ∧ Below w.heap.size w w2) := ⟨ownsRow_of_block HR.out.1 (fun k hk _ => b2.block k hk), HR.out.2.1.trans (b2.mono HR.out.2.1.size)⟩
      clear b2 f1 f2 f3 f4
      by_cases hv0 : Dsr.verdictP es rs role e.name = 0
      · have HN : Hid (enK es rs role (k + 1) = out ++ [e.name]) := by
          show _ = _
          rw [HR.out.2.2.2.2.1]
          exact enK_yes HR.out.2.2.1 hv0
        rw [hv0]
        clear hv0
        have hwr : w.heap.size ≤ w2.heap.size := HB2.out.2.size
        go_wp2_with (at_builtin; refine wpList_append_lies _ rfl (.tmp 25) (.tmp 30) 22 rfl w.heap.size 9 i0 _ 1 16 Tryz.underlying22 hi0 hz0 hz1 hz2 rfl (by decide) (.slice ao out.length co) out.length _ (by simp [Act.eval, Act.put]) (HB2.out.1.alloc _) ⟨w2.heap.size, 0, none⟩ 1 1 [strV e.name] (by simp [Act.eval, Act.put]) rfl (by exact news_l (by simp)) (by intro u hu; simp at hu; subst hu; rfl) (by decide) (by unfold maxLen; omega) (by omega) (by simp; omega) _ rfl ?_; intro g' cap w5 hown hgrow hat hlt5)
        have b5 : Below w.heap.size w w5 := (HB2.out.2.alloc hwr _).grown hgrow (by simp; omega) (fun k hk => (HB2.out.1.lt k hk).1)
        go_roundg j
        case measure => omega
        case rel => exact ⟨k + 1, by go_num, by omega, by rw [HN.out]; simpa using hown, b5⟩
      · have HN : Hid (enK es rs role (k + 1) = out) := by
          show _ = _
          rw [HR.out.2.2.2.2.1]
          exact enK_no HR.out.2.2.1 hv0
        have hv1 : ((Dsr.verdictP es rs role e.name : Int) == 0) = false := by rw [beq_eq_false_iff_ne]; omega
        clear hv0
        go_wp2_with fail
        go_roundg j
        case measure => omega
        case rel => exact ⟨k + 1, by go_num, by omega, by rw [HN.out]; exact HB2.out.1, HB2.out.2⟩
    · have hkl : k = es.length := by omega
      subst hkl
      have HE : Hid (wr.ownsRow w.heap.size 9 1 (.slice ao (enK es rs role es.length).length co) (Dsr.enabledP es rs role).length ((Dsr.enabledP es rs role).map strV) ∧ Below w.heap.size w wr) := ⟨by
        have e : enK es rs role es.length = Dsr.enabledP es rs role := by unfold enK Dsr.enabledP; rw [List.take_length]
        rw [← e]; exact hown, hb⟩
      clear hown hb
      go_wp2_with fail
      go_ret
      exact ⟨_, rfl, HE.out.1, HE.out.2⟩
end
section
variable {N : Nat} {w : World} {cb : Nat} {c : Dsr.Cs} {a : SA} {wb : Option Nat}
set_option maxRecDepth 100000 in
theorem enabled_any (h : CsAt N w cb c a wb) (role : List UInt8) :
    Calls Tryz.prog 30 #[ptr cb, strV role] w fun x w' => ∃ v, x = .returned v ∧ w'.ownsRow w.heap.size 9 1 v (Dsr.enabledP c.es c.rs role).length ((Dsr.enabledP c.es c.rs role).map strV) ∧ Below w.heap.size w w' := by
  obtain ⟨wv, hwv, c0, c1, c2, c3, c4, cf⟩ := h.cells
  have hlt := h.lt
  have H : Hid (CsAt N w cb c a wb) := h
  clear h
  go_enter Tryz.func30, Tryz.ntmps30
  go_wp2_with fail
  refine (stEnabled_any H.out.st H.out.ok.g role).mono ?_
  rintro y w1 ⟨v, rfl, o1, b1⟩
  have H1 : Hid (w1.ownsRow w.heap.size 9 1 v (Dsr.enabledP c.es c.rs role).length ((Dsr.enabledP c.es c.rs role).map strV) ∧ Below w.heap.size w w1) := ⟨o1, b1⟩
  clear o1 b1
  go_wp2_with fail
  go_ret
  exact ⟨v, rfl, H1.out.1, H1.out.2⟩
end
end Go.Proofs.YtjmcokcdaddpcaaGreatDoor
set_option linter.unusedVariables false
set_option linter.unusedSimpArgs false
namespace Go.Proofs.YtjmcokcdaddpcaaGreatDoor
open Go.RowKit
/-- A pair: a case of the program's, and what it is by the document. -/
structure PSt where
  cb : Nat
  M : Nat
  c : Dsr.Cs
  a : SA
  wk : Option Nat
  rb : Nat
  R : Nat
  rc : RC
  ra : RA
  vlog : Value
  vb : Value
  pb : List UInt8
  st : Bool
def prC (p : PSt) : List Value := [ptr p.cb, ptr p.rb, p.vlog, p.vb]
abbrev PFoot (p : PSt) (k : Nat) : Prop := CFoot p.c p.a p.cb p.wk k
abbrev QFoot (p : PSt) (k : Nat) : Prop := RFoot p.rc p.ra p.rb k ∨ p.vlog.ownBlock = some k ∨ p.vb.ownBlock = some k
structure RefAt (w : World) (p : PSt) : Prop where
  rc : RcAt p.R w p.rb p.rc p.ra
  lg : ∃ lg, BOwn 0 w p.vlog lg ∧ 0 < lg.length ∧ lg.length ≤ 3000 + 100 * p.rc.reqs.length
  pb : BOwn 0 w p.vb p.pb
  pl : p.pb.length ≤ 100
  pe : p.st = false → p.rc.bytes ≠ [] → p.pb = p.rc.bytes
theorem RefAt.same {w w' : World} {p : PSt} (h : RefAt w p) (hs : w.heap.size ≤ w'.heap.size) (hk : ∀ k, k < w.heap.size → QFoot p k → w'.heap[k]? = w.heap[k]?) : RefAt w' p :=
  ⟨h.rc.same hs (fun k h1 h2 => hk k h1 (.inl h2)), (let ⟨lg, h1, h2⟩ := h.lg; ⟨lg, h1.block (fun k h1 h2 => hk k h1 (.inr (.inl h2))), h2⟩), h.pb.block (fun k h1 h2 => hk k h1 (.inr (.inr h2))), h.pl, h.pe⟩
/-- Who owns a block: 0: nobody writes it; 1: the world and its rows; 2: the lists that came out; 3 + 2i: the case number i; 4 + 2i: the document's. -/
structure WS where
  wb : Nat
  vl : Value
  vbs : Value
  vkb : Value
  vss : Value
  vks : Value
  bn : Nat
  bl : List BE
  sl : List BE
  ps : List PSt
structure PairOk (w : World) (ω : Nat → Nat) (i : Nat) (p : PSt) : Prop where
  pr : CsAt p.M w p.cb p.c p.a p.wk
  rf : RefAt w p
  po : ∀ k, PFoot p k → ω k = 3 + 2 * i
  qo : ∀ k, QFoot p k → ω k = 4 + 2 * i
  lk : Lnk p.c p.rc
structure WInv (wz : World) (N : Nat) (w : World) (ω : Nat → Nat) (s : WS) : Prop where
  bk : BkAt N w s.wb s.vl s.vbs s.vkb s.vss s.vks s.bn s.bl s.sl
  lr : w.ownsRow N 159 4 s.vl s.ps.length (s.ps.flatMap prC)
  ap : ∀ k, s.vkb.ownBlock = some k → s.vks.ownBlock ≠ some k
  o1 : ∀ k, k = s.wb ∨ s.vl.ownBlock = some k ∨ s.vbs.ownBlock = some k ∨ s.vkb.ownBlock = some k ∨ s.vss.ownBlock = some k ∨ s.vks.ownBlock = some k → ω k = 1
  o2 : ∀ e ∈ s.bl ++ s.sl, ∀ k, e.v.ownBlock = some k → ω k = 2
  pr : ∀ (i : Nat) (p : PSt), s.ps[i]? = some p → PairOk w ω i p
  g0 : ∀ k, k < 5 → ω k = 0
  sg : SignsIn w
  NL : N ≤ w.heap.size
  pn : s.ps.length ≤ s.bn
  fl : ∀ k, ω k ≠ 0 → N ≤ k
  fr : Below N wz w
theorem WInv.frame {wz : World} {N : Nat} {w w' : World} {ω : Nat → Nat} {s : WS} (h : WInv wz N w ω s) {S : Nat → Prop} (hk : Kp S w w') (hS : ∀ k, S k → ω k ≠ 0) : Below N wz w' := h.fr.trans ⟨hk.os, hk.tape, hk.output, hk.size, fun k hN => hk.block k (Nat.lt_of_lt_of_le hN h.NL) (fun hs => by have := h.fl k (hS k hs); omega)⟩
/-- Only blocks of the owner o have been written. -/
structure Chg (ω : Nat → Nat) (o : Nat) (w w' : World) : Prop where
  size : w.heap.size ≤ w'.heap.size
  block : ∀ k, k < w.heap.size → ω k ≠ o → w'.heap[k]? = w.heap[k]?
theorem Chg.of {S : Nat → Prop} {ω : Nat → Nat} {o : Nat} {w w' : World} (h : Kp S w w') (hS : ∀ k, S k → ω k = o) : Chg ω o w w' := ⟨h.size, fun k hk ho => h.block k hk (fun hs => ho (hS k hs))⟩
theorem Chg.below {ω : Nat → Nat} {o : Nat} {w w' : World} (h : Below w.heap.size w w') : Chg ω o w w' := ⟨h.size, fun k hk _ => h.block k hk⟩
theorem Chg.trans {ω : Nat → Nat} {o : Nat} {w w1 w2 : World} (h : Chg ω o w w1) (h' : Chg ω o w1 w2) : Chg ω o w w2 := ⟨Nat.le_trans h.size h'.size, fun k hk ho => (h'.block k (Nat.lt_of_lt_of_le hk h.size) ho).trans (h.block k hk ho)⟩
section
variable {wz : World} {N : Nat} {w w' : World} {ω : Nat → Nat} {s : WS} {o : Nat}
theorem WInv.book (h : WInv wz N w ω s) (hc : Chg ω o w w') (h0 : o ≠ 0) (h1 : o ≠ 1) (h2 : o ≠ 2) : BkAt N w' s.wb s.vl s.vbs s.vkb s.vss s.vks s.bn s.bl s.sl := by
  have hb := h.bk
  have hx : ∀ k, k < w.heap.size → ω k = 1 → w'.heap[k]? = w.heap[k]? := fun k hk e => hc.block k hk (by omega)
  have hy : ∀ k, k < w.heap.size → ω k = 2 → w'.heap[k]? = w.heap[k]? := fun k hk e => hc.block k hk (by omega)
  have hwl : s.wb < w.heap.size := (Array.getElem?_eq_some_iff.1 hb.blk).1
  have h10 := hb.wb10
  exact ⟨(hx _ hwl (h.o1 _ (.inl rfl))).trans hb.blk, ownsRow_of_block hb.bs (fun k hk hv => hx k hk (h.o1 k (.inr (.inr (.inl hv))))), ownsRow_of_block hb.kb (fun k hk hv => hx k hk (h.o1 k (.inr (.inr (.inr (.inl hv)))))), ownsRow_of_block hb.ss (fun k hk hv => hx k hk (h.o1 k (.inr (.inr (.inr (.inr (.inl hv))))))), ownsRow_of_block hb.ks (fun k hk hv => hx k hk (h.o1 k (.inr (.inr (.inr (.inr (.inr hv))))))), fun e he => (hb.rd e he).same hc.size (fun k hk hv => hy k hk (h.o2 e (List.mem_append_left _ he) k hv)), fun e he => (hb.rs e he).same hc.size (fun k hk hv => hy k hk (h.o2 e (List.mem_append_right _ he) k hv)), hb.tab.same (fun x hx => hc.block x (by omega) (by rw [h.g0 x hx]; exact fun e => h0 e.symm)), hb.wb10, hb.bn2, hb.bl4, hb.sl4, hb.bk, hb.sk⟩
theorem WInv.row (h : WInv wz N w ω s) (hc : Chg ω o w w') (h1 : o ≠ 1) : w'.ownsRow N 159 4 s.vl s.ps.length (s.ps.flatMap prC) := ownsRow_of_block h.lr (fun k hk hv => hc.block k hk (by rw [h.o1 k (.inr (.inl hv))]; exact fun e => h1 e.symm))
theorem PairOk.prog {i : Nat} {p : PSt} (h : PairOk w ω i p) (hc : Chg ω o w w') (h1 : o ≠ 3 + 2 * i) : CsAt p.M w' p.cb p.c p.a p.wk := h.pr.same hc.size (fun k hk hf => hc.block k hk (by rw [h.po k hf]; exact fun e => h1 e.symm))
theorem PairOk.ref {i : Nat} {p : PSt} (h : PairOk w ω i p) (hc : Chg ω o w w') (h1 : o ≠ 4 + 2 * i) : RefAt w' p := h.rf.same hc.size (fun k hk hf => hc.block k hk (by rw [h.qo k hf]; exact fun e => h1 e.symm))
end
end Go.Proofs.YtjmcokcdaddpcaaGreatDoor
set_option linter.unusedVariables false
set_option linter.unusedSimpArgs false
namespace Go.Proofs.YtjmcokcdaddpcaaGreatDoor
open Go.RowKit
theorem SignsIn.same {w w' : World} (h : SignsIn w) (hs : w.heap.size ≤ w'.heap.size) (h0 : w'.heap[0]? = w.heap[0]?) : SignsIn w' := by
  obtain ⟨hl, c0, c1, c2, c3, c4⟩ := h
  have e : ∀ o, w'.cell? ⟨0, o, none⟩ = w.cell? ⟨0, o, none⟩ := fun o => World.cell?_of_block h0
  exact ⟨Nat.lt_of_lt_of_le hl hs, by rw [e, c0], by rw [e, c1], by rw [e, c2], by rw [e, c3], by rw [e, c4]⟩
section
variable {wz : World} {N : Nat} {w w' : World} {ω : Nat → Nat} {s : WS}
/-- The owners behind a step that has made blocks: q says whose. -/
def ownN (w : World) (ω q : Nat → Nat) (k : Nat) : Nat := if k < w.heap.size then ω k else q k
theorem ownN_old {q : Nat → Nat} {k : Nat} (h : k < w.heap.size) : ownN w ω q k = ω k := if_pos h
theorem ownN_new {q : Nat → Nat} {k : Nat} (h : w.heap.size ≤ k) : ownN w ω q k = q k := if_neg (by omega)
theorem fl_own {q : Nat → Nat} (hf : ∀ k, ω k ≠ 0 → N ≤ k) (hN : N ≤ w.heap.size) : ∀ k, ownN w ω q k ≠ 0 → N ≤ k := fun k hk => by
  by_cases h : k < w.heap.size
  · rw [ownN_old h] at hk; exact hf k hk
  · omega
theorem PairOk.lt {i : Nat} {p : PSt} (h : PairOk w ω i p) {k : Nat} (hk : PFoot p k ∨ QFoot p k) : k < w.heap.size := by
  rcases hk with hk | hk | hk | hk
  · rcases hk with rfl | hk | hk
    · exact h.pr.lt
    · rcases hc : p.c.wait with _ | q
      · have := h.pr.wsome
        rw [hk, hc] at this
        cases this
      · exact (Array.getElem?_eq_some_iff.1 (h.pr.wt k q hk hc)).1
    · rcases hk with hk | ⟨v, hv, hvb⟩
      · exact (h.pr.st.rows.lt hk).2
      · obtain ⟨i, e, he, hvi⟩ := h.pr.st.rvAt hv
        obtain ⟨⟨B', ho⟩, hl⟩ := h.pr.st.rol i e v he hvi
        exact (ho.lt k hvb).2
  · exact (h.rf.rc.footLt hk).2
  · obtain ⟨lg, hlg, _, _⟩ := h.rf.lg
    exact (World.ownsRow.lt hlg k hk).2
  · exact (World.ownsRow.lt h.rf.pb k hk).2
/-- A pair that is left alone. -/
theorem PairOk.kept {i : Nat} {p : PSt} (h : PairOk w ω i p) {S : Nat → Prop} (hk : Kp S w w') (hS : ∀ k, S k → k < w.heap.size → ω k ≠ 3 + 2 * i ∧ ω k ≠ 4 + 2 * i) (q : Nat → Nat) : PairOk w' (ownN w ω q) i p := by
  refine ⟨h.pr.same hk.size (fun k h1 h2 => hk.block k h1 (fun hs => (hS k hs h1).1 (h.po k h2))), h.rf.same hk.size (fun k h1 h2 => hk.block k h1 (fun hs => (hS k hs h1).2 (h.qo k h2))), fun k hf => ?_, fun k hf => ?_, h.lk⟩
  · rw [ownN_old (h.lt (.inl hf))]; exact h.po k hf
  · rw [ownN_old (h.lt (.inr hf))]; exact h.qo k hf
/-- Behind the book's bytes. -/
theorem inv_bytes (h : WInv wz N w ω s) {vb : Value} {B n : Nat} {xs : List Value} (hvo : w.ownsRow B 5 1 vb n xs) (hP : BytesP N w s.wb s.vl s.vbs s.vkb s.vss s.vks vb s.bn n s.bl w') (hvb : ∀ k, vb.ownBlock = some k → ω k = 2) (hn : n ≤ 3000) (hbn : s.bn < 1600000000000) :
    ∃ ω' s', WInv wz N w' ω' s' ∧ s'.wb = s.wb ∧ s'.bn = s.bn + 1 ∧ s'.ps = s.ps ∧ s'.vl = s.vl ∧ ∀ k, k < w.heap.size → ω' k = ω k := by
  obtain ⟨vbs', vkb', vg, vh, vj, hblk, hbs, hkb, hrd, hkp, hf1, hf2, hf3⟩ := hP
  have hb := h.bk
  have hwl : s.wb < w.heap.size := (Array.getElem?_eq_some_iff.1 hb.blk).1
  have h10 := hb.wb10
  have hSo : ∀ k, BytS s.wb s.vbs s.vkb vb k → ω k = 1 ∨ ω k = 2 := fun k hk => by
    rcases hk with rfl | hk | hk | hk
    · exact .inl (h.o1 _ (.inl rfl))
    · exact .inl (h.o1 _ (.inr (.inr (.inl hk))))
    · exact .inl (h.o1 _ (.inr (.inr (.inr (.inl hk)))))
    · exact .inr (hvb k hk)
  have hT : ∀ {k : Nat} {T : TypeId} {cur : Array Value}, w.heap[k]? = some (.cells cur T (0, 0)) → T ≠ 107 → T ≠ 27 → T ≠ 3 → T ≠ 5 → ¬ BytS s.wb s.vbs s.vkb vb k := fun hc t1 t2 t3 t4 hS => by
    rcases hS with rfl | hS | hS | hS
    · exact t1 (cells_type hc hb.blk)
    · obtain ⟨c2, h2⟩ := own_type hb.bs hS; exact t2 (cells_type hc h2)
    · obtain ⟨c2, h2⟩ := own_type hb.kb hS; exact t3 (cells_type hc h2)
    · obtain ⟨c2, h2⟩ := own_type hvo hS; exact t4 (cells_type hc h2)
  let q : Nat → Nat := fun k => if vbs'.ownBlock = some k ∨ vkb'.ownBlock = some k then 1 else 2
  have h0k : ∀ k, k < 5 → w'.heap[k]? = w.heap[k]? := fun k hk => hkp.block k (by omega) (fun hS => by
    have := h.g0 k hk
    rcases hSo k hS with e | e <;> omega)
  have hnew1 : ∀ k, vbs'.ownBlock = some k ∨ vkb'.ownBlock = some k → ownN w ω q k = 1 := fun k hk => by
    by_cases hlt : k < w.heap.size
    · rw [ownN_old hlt]
      rcases hk with hk | hk
      · exact h.o1 _ (.inr (.inr (.inl ((hf1 k hk).resolve_right (by omega)))))
      · exact h.o1 _ (.inr (.inr (.inr (.inl ((hf2 k hk).resolve_right (by omega))))))
    · rw [ownN_new (by omega)]
      exact if_pos hk
  have hnew2 : ∀ e ∈ more4 vb vg vh vj (s.bn + 1) n, ∀ k, e.v.ownBlock = some k → ownN w ω q k = 2 := fun e he k hk => by
    have hrb := hrd e (List.mem_append_right _ he)
    obtain ⟨c3, h3⟩ := hrb.type hk
    by_cases hlt : k < w.heap.size
    · rw [ownN_old hlt]
      simp only [more4, List.mem_cons, List.not_mem_nil, or_false] at he
      rcases he with rfl | rfl | rfl | rfl
      · exact hvb k hk
      · exact hvb k ((hf3 k (.inl hk)).resolve_right (by omega))
      · exact hvb k ((hf3 k (.inr (.inl hk))).resolve_right (by omega))
      · exact hvb k ((hf3 k (.inr (.inr hk))).resolve_right (by omega))
    · rw [ownN_new (by omega)]
      refine if_neg ?_
      rintro (hv | hv)
      · obtain ⟨c4, h4⟩ := own_type hbs hv; exact absurd (cells_type h3 h4) (by decide)
      · obtain ⟨c4, h4⟩ := own_type hkb hv; exact absurd (cells_type h3 h4) (by decide)
  have hlen : (s.bl ++ more4 vb vg vh vj (s.bn + 1) n).length = s.bl.length + 4 := by simp [more4]
  refine ⟨ownN w ω q, { s with vbs := vbs', vkb := vkb', bn := s.bn + 1, bl := s.bl ++ more4 vb vg vh vj (s.bn + 1) n }, ⟨⟨hblk, ?_, ?_, ?_, ?_, hrd, ?_, hb.tab.same h0k, hb.wb10, by show s.bn + 1 ≤ 1600000000000; omega, ?_, ?_, ?_, ?_⟩, ?_, ?_, ?_, ?_, ?_, ?_, ?_, ?_, ?_, fl_own h.fl h.NL, h.frame hkp (fun k hS => by rcases hSo k hS with e | e <;> omega)⟩, rfl, rfl, rfl, rfl, fun k hk => ownN_old hk⟩
  · rw [hlen]; exact hbs
  · rw [hlen]; exact hkb
  · exact ownsRow_of_block hb.ss (fun k hk hv => by
      obtain ⟨c, hc⟩ := own_type hb.ss hv
      exact hkp.block k hk (hT hc (by decide) (by decide) (by decide) (by decide)))
  · exact ownsRow_of_block hb.ks (fun k hk hv => by
      obtain ⟨c, hc⟩ := own_type hb.ks hv
      refine hkp.block k hk (fun hS => ?_)
      rcases hS with rfl | hS | hS | hS
      · exact absurd (cells_type hc hb.blk) (by decide)
      · obtain ⟨c2, h2⟩ := own_type hb.bs hS; exact absurd (cells_type hc h2) (by decide)
      · exact h.ap k hS hv
      · obtain ⟨c2, h2⟩ := own_type hvo hS; exact absurd (cells_type hc h2) (by decide))
  · exact fun e he => (hb.rs e he).same hkp.size (fun k hk hv => by
      obtain ⟨c, hc⟩ := (hb.rs e he).type hv
      exact hkp.block k hk (hT hc (by decide) (by decide) (by decide) (by decide)))
  · show (s.bl ++ more4 vb vg vh vj (s.bn + 1) n).length ≤ 4 * (s.bn + 1)
    rw [hlen]
    have := hb.bl4
    omega
  · show s.sl.length ≤ 4 * (s.bn + 1)
    have := hb.sl4
    omega
  · intro e he
    show e.k ≤ s.bn + 1 ∧ e.n ≤ 3003
    rcases List.mem_append.1 he with he | he
    · have := hb.bk e he; omega
    · simp only [more4, List.mem_cons, List.not_mem_nil, or_false] at he
      rcases he with rfl | rfl | rfl | rfl
      · exact ⟨Nat.le_refl _, by show n ≤ 3003; omega⟩
      · exact ⟨Nat.le_refl _, by show n + 1 ≤ 3003; omega⟩
      · exact ⟨Nat.le_refl _, by show n + 2 ≤ 3003; omega⟩
      · exact ⟨Nat.le_refl _, by show n + 3 ≤ 3003; omega⟩
  · intro e he
    show e.k ≤ s.bn + 1 ∧ e.n ≤ 3003
    have := hb.sk e he; omega
  · exact ownsRow_of_block h.lr (fun k hk hv => by
      obtain ⟨c, hc⟩ := own_type h.lr hv
      exact hkp.block k hk (hT hc (by decide) (by decide) (by decide) (by decide)))
  · intro k hk hv
    rcases hf2 k hk with e | e
    · exact h.ap k e hv
    · have := (hb.ks.lt k hv).2; omega
  · intro k hk
    rcases hk with rfl | hk | hk | hk | hk | hk
    · rw [ownN_old hwl]; exact h.o1 _ (.inl rfl)
    · rw [ownN_old (h.lr.lt k hk).2]; exact h.o1 _ (.inr (.inl hk))
    · exact hnew1 k (.inl hk)
    · exact hnew1 k (.inr hk)
    · rw [ownN_old (hb.ss.lt k hk).2]; exact h.o1 _ (.inr (.inr (.inr (.inr (.inl hk)))))
    · rw [ownN_old (hb.ks.lt k hk).2]; exact h.o1 _ (.inr (.inr (.inr (.inr (.inr hk)))))
  · intro e he k hk
    rcases List.mem_append.1 he with he | he
    · rcases List.mem_append.1 he with he | he
      · obtain ⟨c, hc⟩ := (hb.rd e he).type hk
        rw [ownN_old (Array.getElem?_eq_some_iff.1 hc).1]
        exact h.o2 e (List.mem_append_left _ he) k hk
      · exact hnew2 e he k hk
    · obtain ⟨c, hc⟩ := (hb.rs e he).type hk
      rw [ownN_old (Array.getElem?_eq_some_iff.1 hc).1]
      exact h.o2 e (List.mem_append_right _ he) k hk
  · intro i p hp
    exact (h.pr i p hp).kept hkp (fun k hS hlt => by rcases hSo k hS with e | e <;> omega) q
  · intro k hk
    rw [ownN_old (by omega)]
    exact h.g0 k hk
  · exact h.sg.same hkp.size (h0k 0 (by omega))
  · exact Nat.le_trans h.NL hkp.size
  · show s.ps.length ≤ s.bn + 1
    have := h.pn
    omega
end
end Go.Proofs.YtjmcokcdaddpcaaGreatDoor
