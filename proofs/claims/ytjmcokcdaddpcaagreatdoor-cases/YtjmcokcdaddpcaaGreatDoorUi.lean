import Derived.Test.YtjmcokcdaddpcaaGreatDoorUd
import Derived.Lib.SmallJoins
import Derived.Test.YtjmcokcdaddpcaaGreatDoorRsD
import Derived.Test.YtjmcokcdaddpcaaGreatDoorGrQ
set_option linter.unusedVariables false
set_option linter.unusedSimpArgs false
namespace Go.Proofs.YtjmcokcdaddpcaaGreatDoor
open Go.RowKit
theorem hashR_eq (bs : List UInt8) : hashR bs = Dsr.hash bs := rfl
abbrev endV (n l h : Nat) : Value := .agg #[.int .u32 n, .int .i64 l, .int .u32 h]
/-- A full slice of bytes, whatever block it lies in: append makes a new row. -/
theorem run_append_full (w : World) (base g n : Nat) (olds : List UInt8) (hn : olds.length = n) (holds : ∀ j c, olds[j]? = some c → w.cell? ⟨g, j, none⟩ = some (byV c)) (ad : Addr) (m c : Nat) (news : List UInt8) (hm : news.length = m) (hm0 : 0 < m) (hnews : ∀ j u, (news.map byV)[j]? = some u → w.cell? (ad.add j) = some u)
    (hl : n + m ≤ 100000) (hbase : base ≤ w.heap.size) (ty : TypeId) :
    ∃ cap w', (Builtin.append_ #[27, 27] ty #[.slice (some ⟨g, 0, none⟩) n n, .slice (some ad) m c]).run Tryz.prog w = .ok (.slice (some ⟨w.heap.size, 0, none⟩) (n + m) cap) w' ∧ BOwn base w' (.slice (some ⟨w.heap.size, 0, none⟩) (n + m) cap) (olds ++ news) ∧ Below base w w' := by
  obtain ⟨i0, hi, hz0, hz1, hz2⟩ := info_parts info_u8
  have hr := run_append_grow (P := Tryz.prog) w 27 ty 5 i0 (.int .u8 0) Tryz.underlying27 hi hz0 ⟨g, 0, none⟩ n n (olds.map byV) (by rw [hz1]; simp [hn]) (fun j v hv => by
    rw [List.getElem?_map, Option.map_eq_some_iff] at hv
    obtain ⟨x, hx, rfl⟩ := hv
    simpa [Addr.add_lit] using holds j x hx) ad m c (news.map byV) (by rw [hz1]; simp [hm]) hnews (by omega) (by omega) (by rw [hz2]; exact growslice_fits (by omega) (by omega))
  have hge := grownCap_ge w (n + m) n 5
  have hcm : grownCap w (n + m) n 5 ≤ maxLen := grownCap_le_maxLen w (n + m) n 5 (by unfold maxLen; omega)
  refine ⟨_, _, hr, ⟨?_, .inr ⟨w.heap.size, _, _, ?_, hbase, heap_alloc_new w.drew _, ?_, hcm, ?_, ?_⟩⟩, ?_⟩
  · simp
  · simp [hn, hm]
  · simp [hn, hm]; exact hge
  · have hz : (Value.int IntKind.u8 0).cells.size = 1 := rfl
    simp only [Array.size_append, List.size_toArray, size_zeroCells, hz, List.length_map, hn, hm]
    omega
  · simp only [Array.toList_append, List.map_append, List.append_assoc]
    rw [← List.append_assoc]
    have e : (olds ++ news).length * 1 = (olds.map byV ++ news.map byV).length := by simp
    rw [e]
    exact List.take_left
  · exact (Below.drew (Below.refl _ _)).alloc hbase _
theorem wpList_append_full {ops : Array Oper} {rest : List Oper} {o : Oper} {a : Act} {w : World} {Q : Exit → Act → World → Prop} (hgd : o.guard = none) (s x : Operand)
    (ho : o.op = .call { callee := .builtin .append, args := #[s, x], argTypes := #[27, 27] })
    (base g n : Nat) (olds : List UInt8) (hs : a.eval s = .slice (some ⟨g, 0, none⟩) n n) (hn : olds.length = n) (holds : ∀ j c, olds[j]? = some c → w.cell? ⟨g, j, none⟩ = some (byV c)) (ad : Addr) (m c : Nat) (news : List UInt8) (hx : a.eval x = .slice (some ad) m c) (hm : news.length = m) (hm0 : 0 < m) (hnews : ∀ j u, (news.map byV)[j]? = some u → w.cell? (ad.add j) = some u)
    (hl : n + m ≤ 100000) (hbase : base ≤ w.heap.size)
    (h : ∀ cap w', BOwn base w' (.slice (some ⟨w.heap.size, 0, none⟩) (n + m) cap) (olds ++ news) → Below base w w' → wpList Tryz.prog ops Q rest (a.put o.dst (.slice (some ⟨w.heap.size, 0, none⟩) (n + m) cap)) w') : wpList Tryz.prog ops Q (o :: rest) a w := by
  refine wpList_plain hgd fun K hK => ?_
  obtain ⟨cap, w', hr, h2, h3⟩ := run_append_full w base g n olds hn holds ad m c news hm hm0 hnews hl hbase o.type
  unfold Oper.wp execOp
  simp only [ho, resolve, invoke, builtin, Sem.run_bind, Sem.run_pure, Result.andThen_ok, List.map_toArray, List.map_cons, List.map_nil, hs, hx, hr]
  exact hK _ _ (h cap w' h2 h3)
set_option maxRecDepth 100000 in
set_option maxHeartbeats 1600000 in
theorem recSeal_any {B : Nat} {w : World} {v : Value} {bs : List UInt8} (h : BOwn B w v bs) (hl : bs.length ≤ 90000) (hB : B ≤ w.heap.size) :
    Calls Tryz.prog 84 #[v] w fun x w' => ∃ a m c, x = .returned (.tuple #[.slice a m c, .int .u32 (Dsr.hash bs : Nat)]) ∧ BStep B w w' (.slice a m c) (Dsr.sealed bs) := by
  obtain ⟨va, vc, rfl⟩ := owned_shape h
  have H : Hid (BOwn B w (.slice va bs.length vc) bs) := h
  clear h
  go_enter Tryz.func84, Tryz.ntmps84
  go_wp2_with fail
  refine (recHash_any bs _ w H.out.is (by omega)).mono ?_
  rintro x w1 ⟨rfl, b1⟩
  rw [hashR_eq]
  have H1 : Hid (BOwn B w1 (.slice va bs.length vc) bs ∧ Below B w w1 ∧ B ≤ w1.heap.size) := ⟨H.out.below b1, b1.mono hB, Nat.le_trans hB b1.size⟩
  clear b1
  have HHh : Hid (Dsr.hash bs < 4294967296) := Dsr.hash_lt bs
  go_wp2_with fail
  refine (recNumber_any H1.out.1 (by omega) H1.out.2.2 (Dsr.hash bs) HHh.out).mono ?_
  rintro x w2 ⟨a, m, c, rfl, hs⟩
  have H2 : Hid (BStep B w w2 (.slice a m c) (Dsr.sealed bs)) := ⟨hs.own, H1.out.2.1.trans hs.bel⟩
  clear hs
  go_wp2_with fail
  go_ret2
  exact ⟨a, m, c, rfl, H2.out⟩
theorem cells3L {w : World} {b : Nat} {c0 c1 c2 : Value} {T : TypeId} (h : w.heap[b]? = some (.cells #[c0, c1, c2] T (0, 0))) :
    w.cell? ⟨b, 0, none⟩ = some c0 ∧ w.cell? ⟨b, 1, none⟩ = some c1 ∧ w.cell? ⟨b, 2, none⟩ = some c2 ∧ ∀ o, w.frozen? ⟨b, o, none⟩ = false := by
  refine ⟨?_, ?_, ?_, fun o => ?_⟩ <;> simp [World.cell?, World.frozen?, h]
theorem two_cells {w : World} (g : Nat) {o1 o2 : Obj} (hg : g = (w.alloc o1).heap.size) : ∀ j c, [(68 : UInt8), 49][j]? = some c → (((w.alloc o1).alloc (.cells #[.int .u8 68, .int .u8 49] 5 (2, 3))).alloc o2).cell? ⟨g, j, none⟩ = some (byV c) := fun j c hj => by
  subst hg
  have hb : (((w.alloc o1).alloc (.cells #[.int .u8 68, .int .u8 49] 5 (2, 3))).alloc o2).heap[(w.alloc o1).heap.size]? = some (.cells #[.int .u8 68, .int .u8 49] 5 (2, 3)) := (Below.heap_alloc _ _ _ (by simp)).trans (heap_alloc_new _ _)
  rw [cell_of_row _ _ _ _ _ _ hb]
  rcases j with _ | _ | j
  · simp at hj; subst hj; rfl
  · simp at hj; subst hj; rfl
  · simp at hj
theorem news_blkN {w : World} {g : Nat} {vs : List Value} {T : TypeId} (hg : g = w.heap.size) : ∀ j u, vs[j]? = some u → (w.alloc (.cells vs.toArray T)).cell? ((⟨g, 0, none⟩ : Addr).add j) = some u := fun j u hu => by
  subst hg
  exact news_blk (heap_alloc_new _ _) j u hu
theorem beg_step (w : World) (o1 o2 o3 : Obj) {w5 : World} {cap : Nat} {bs : List UInt8} (h4 : bs.length = 4) (h : BOwn (w.heap.size + 1) w5 (.slice (some ⟨(((w.alloc o1).alloc o2).alloc o3).heap.size, 0, none⟩) (2 + 2) cap) bs) (hb : Below (w.heap.size + 1) (((w.alloc o1).alloc o2).alloc o3) w5) :
    Hid (BStep (w.heap.size + 1) (w.alloc o1) w5 (.slice (some ⟨w.heap.size + 1 + 1 + 1, 0, none⟩) 4 cap) bs) ∧ Hid (w5.ownsRow (w.heap.size + 1) 5 1 (.slice (some ⟨w.heap.size + 1 + 1 + 1, 0, none⟩) 4 cap) 4 (bs.map byV)) ∧ w.heap.size + 1 ≤ w5.heap.size := by
  have e : (((w.alloc o1).alloc o2).alloc o3).heap.size = w.heap.size + 1 + 1 + 1 := by simp
  rw [e] at h
  have hbl : Below (w.heap.size + 1) (w.alloc o1) w5 := (((Below.refl _ _).alloc (by simp) o2).alloc (by simp) o3).trans hb
  refine ⟨⟨h, hbl⟩, ?_, by have := hbl.size; simpa using this⟩
  have h' := h
  unfold BOwn at h'
  rw [h4] at h'
  exact h'
theorem text_step {B : Nat} {w w5 w6 : World} {v v6 : Value} {bs t : List UInt8} {n : Nat} (HS : Hid (BStep B w w5 v bs)) (hB : B ≤ w5.heap.size) (hn : n = bs.length) (hown : w6.ownsRow B 5 1 v6 (n + (⟨t.toArray⟩ : ByteArray).size) (bs.map byV ++ Lib.strCells ⟨t.toArray⟩)) (hg : w5.grownBy w6 v.ownBlock) :
    Hid (BStep B w w6 v6 (bs ++ t)) ∧ ∃ a n c, v6 = .slice a n c := by
  subst hn
  have h := HS.out.trans (BStep.text HS.out.own hB hown hg)
  obtain ⟨a, c, e⟩ := owned_shape h.own
  exact ⟨h, a, _, c, e⟩
set_option maxRecDepth 100000 in
set_option maxHeartbeats 1600000 in
theorem recBegin_any (w : World) (t : List UInt8) (ht : t.length ≤ 400) :
    Calls Tryz.prog 53 #[strV t] w fun x w' => ∃ a m c, x = .returned (.tuple #[.slice a m c, endV 0 m (Dsr.hash (Dsr.headOf t))]) ∧ BOwn w.heap.size w' (.slice a m c) (Dsr.sealed (Dsr.headOf t)) ∧ Below w.heap.size w w' := by
  obtain ⟨i0, hi, hz0, hz1, hz2⟩ := info_parts info_u8
  have hzt : (t.length : Int) ≤ 400 := by omega
  have hcv := Go.Joins.run_convert_bytes_const_at (P := Tryz.prog) (w.alloc (.cells #[.int .u32 0, .int .i64 0, .int .u32 0] 112)) 27 5 #[.int .u8 68, .int .u8 49] 2 2 (w.heap.size + 1) (by simp) Tryz.underlying27 Tryz.underlying5
  have hnw : Hid ([Dsr.byte (t.length / 256), Dsr.byte t.length].map byV = [.int .u8 ((t.length : Int) / 256), .int .u8 ((t.length : Int) % 256)]) := by
    show _ = _
    simp only [List.map_cons, List.map_nil, byV_byte]
    congr 2
    · omega
  go_enter Tryz.func53, Tryz.ntmps53
  go_wp2_with (first
    | (at_builtin; refine wpList_append_full rfl (.tmp 7) (.tmp 15) rfl (w.heap.size + 1) (w.heap.size + 1) 2 [68, 49] (by simp [Act.eval, Act.put]) rfl (two_cells (w.heap.size + 1) (by simp)) ⟨w.heap.size + 1 + 1, 0, none⟩ 2 2 [Dsr.byte (t.length / 256), Dsr.byte t.length] (by simp [Act.eval, Act.put]) rfl (by decide) (by rw [hnw.out]; exact news_blkN (by simp)) (by decide) (by simp) ?_; intro cap w5 hown hbel; obtain ⟨HS, HO, hB5⟩ := beg_step w _ _ _ rfl hown hbel; clear hown hbel)
    | (at_builtin; refine Lib.wpList_append_own_string _ rfl (.tmp 18) (.tmp 19) 27 9 rfl (w.heap.size + 1) 5 i0 Tryz.underlying27 Tryz.underlying9 hi hz0 hz1 hz2 (.slice (some ⟨w.heap.size + 1 + 1 + 1, 0, none⟩) 4 cap) 4 _ (by simp [Act.eval, Act.put]) HO.out ⟨t.toArray⟩ (by simp [Act.eval, Act.put]) (by unfold maxLen; simp [ByteArray.size]; omega) (by simp [ByteArray.size]; omega) hB5 ?_; intro v6 w6 hown6 hgrow6 hnil6; obtain ⟨HS6, a6, n6, c6, hv6⟩ := text_step HS hB5 rfl hown6 hgrow6; subst hv6; clear hown6 hgrow6 hnil6))
  refine (recSeal_any HS6.out.own (by simp; omega) (by have := HS6.out.bel.size; simpa using this)).mono ?_
  rintro x w7 ⟨a7, m7, c7, rfl, hs7⟩
  have e7 : [68, 49] ++ [Dsr.byte (t.length / 256), Dsr.byte t.length] ++ t = Dsr.headOf t := rfl
  rw [e7] at hs7 ⊢
  have hbl7 := HS6.out.bel.trans hs7.bel
  have p7 : w7.heap[w.heap.size]? = some (.cells #[.int .u32 0, .int .i64 0, .int .u32 0] 112 (0, 0)) := (hbl7.block _ (by omega)).trans (heap_alloc_new _ _)
  have hlt7 : w.heap.size < w7.heap.size := (Array.getElem?_eq_some_iff.1 p7).1
  obtain ⟨m0, m1, m2, mf⟩ := cells3L p7
  have H7 : Hid (BOwn (w.heap.size + 1) w7 (.slice a7 m7 c7) (Dsr.sealed (Dsr.headOf t)) ∧ Below w.heap.size w w7) := ⟨hs7.own, ((Below.refl _ _).alloc (Nat.le_refl _) _).trans (hbl7.mono (by omega))⟩
  clear hs7 hbl7 p7 e7 HS6 HS HO
  go_wp2_with fail
  refine bodyPost_ret (v := .tuple #[.slice a7 m7 c7, endV 0 m7 (Dsr.hash (Dsr.headOf t))]) (by simp [results, Tryz.results53, go_sem, m0, m1, m2, mf]) rfl ⟨_, _, _, rfl, ?_, ?_⟩
  · exact Go.Joins.ownsRow_le (H7.out.1.block (fun k hk ho => by
      have := (World.ownsRow.lt H7.out.1 k ho).1
      repeat rw [heap_setCell_other _ _ _ _ (by show k ≠ w.heap.size; omega)])) (by omega)
  · repeat (first | exact H7.out.2 | refine Below.setCell ?_ (by simp) _ | refine Below.drew ?_)
end Go.Proofs.YtjmcokcdaddpcaaGreatDoor
set_option linter.unusedVariables false
set_option linter.unusedSimpArgs false
namespace Go.Proofs.YtjmcokcdaddpcaaGreatDoor
open Go.RowKit
theorem own_built {w : World} {vs : List Value} {T : TypeId} {n B : Nat} (hn : vs.length = n) (hm : n ≤ maxLen) (hB : B ≤ w.heap.size) : (w.alloc (.cells vs.toArray T)).ownsRow B T 1 (.slice (some ⟨w.heap.size, 0, none⟩) n n) n vs := by
  refine ⟨by omega, .inr ⟨w.heap.size, n, vs.toArray, rfl, hB, heap_alloc_new _ _, Nat.le_refl _, hm, by simp [hn], ?_⟩⟩
  simp [← hn]
set_option maxRecDepth 100000 in
set_option maxHeartbeats 1600000 in
theorem rFour_any (n : Nat) (hn : n < 4294967296) (w : World) :
    Calls Tryz.prog 221 #[.int .i64 n] w fun x w' => ∃ a c, x = .returned (.slice (some ⟨a, 0, none⟩) 4 c) ∧ BOwn w.heap.size w' (.slice (some ⟨a, 0, none⟩) 4 c) (Dsr.four n) ∧ Below w.heap.size w w' := by
  have hc : Hid ((Dsr.four n).map byV = [.int .u8 ((n : Int) / 16777216), .int .u8 ((n : Int) / 65536 % 256), .int .u8 ((n : Int) / 256 % 256), .int .u8 ((n : Int) % 256)]) := four_cells n hn
  have hz : (n : Int) < 4294967296 := by omega
  go_enter Tryz.func221, Tryz.ntmps221
  go_wp2_with fail
  go_ret
  refine ⟨_, _, rfl, ?_, (Below.refl _ _).alloc (Nat.le_refl _) _⟩
  have := own_built (w := w) (T := 5) (B := w.heap.size) (vs := (Dsr.four n).map byV) (n := 4) (by simp [Dsr.four]) (by unfold maxLen; omega) (Nat.le_refl _)
  rw [hc.out] at this
  show World.ownsRow _ _ _ _ _ (Dsr.four n).length ((Dsr.four n).map byV)
  rw [hc.out]
  exact this
set_option maxRecDepth 100000 in
set_option maxHeartbeats 1600000 in
theorem rSealed_any {B : Nat} {w : World} {v : Value} {bs : List UInt8} (h : BOwn B w v bs) (hl : bs.length ≤ 90000) (h0 : bs ≠ []) :
    Calls Tryz.prog 165 #[v] w fun x w' => ∃ a m c, x = .returned (.slice a m c) ∧ BOwn w.heap.size w' (.slice a m c) (Dsr.sealed bs) ∧ Below w.heap.size w w' := by
  obtain ⟨va, vc, rfl⟩ := owned_shape h
  have hpos : 0 < bs.length := List.length_pos_iff.2 h0
  obtain ⟨g, rfl, hc1, hc2⟩ := own_some h hpos
  have H : Hid (BOwn B w (.slice (some ⟨g, 0, none⟩) bs.length vc) bs) := h
  clear h
  obtain ⟨i0, hi, hz0, hz1, hz2⟩ := info_parts info_u8
  go_enter Tryz.func165, Tryz.ntmps165
  go_wp2_with (at_builtin; (refine wpList_append_lies _ rfl (.tmp 5) (.tmp 6) 27 rfl w.heap.size 5 i0 _ 1 1 Tryz.underlying27 hi hz0 hz1 hz2 rfl (by decide) (.slice none 0 0) 0 [] (by simp [Act.eval, Act.put]) (World.ownsRow_nil _ _ _ _) ⟨g, 0, none⟩ bs.length vc (bs.map byV) (by simp [Act.eval, Act.put]) (by simp) (fun j u hu => World.ownsRow.cells H.out (g := g) rfl j u hu) (by intro u hu; obtain ⟨x, hx, rfl⟩ := List.mem_map.1 hu; rfl) hpos (by unfold maxLen; omega) (by omega) (by omega) _ rfl ?_); intro g' cap w5 hown hgrow hat hlt5)
  have HS : Hid (BOwn w.heap.size w5 (.slice (some ⟨g', 0, none⟩) (0 + bs.length) cap) bs ∧ Below w.heap.size w w5) := ⟨by unfold BOwn; rw [Nat.zero_add] at hown ⊢; simpa using hown, (Below.refl _ _).grown hgrow (Nat.le_refl _) (fun k hk => by cases hk)⟩
  have HB : Hid (BytesIs w5 (.slice (some ⟨g, 0, none⟩) bs.length vc) bs) := (H.out.below HS.out.2).is
  clear hown hgrow hat
  go_wp2_with fail
  refine (rHash_any bs _ w5 HB.out (by omega)).mono ?_
  rintro y w6 ⟨rfl, b6⟩
  rw [hashR_eq]
  obtain ⟨hs, hhs⟩ : ∃ hs, hs = Dsr.hash bs := ⟨_, rfl⟩
  rw [← hhs]
  have HH : Hid (hs = Dsr.hash bs ∧ hs < 4294967296 ∧ Below w5.heap.size w5 w6) := ⟨hhs, by rw [hhs]; exact Dsr.hash_lt bs, b6⟩
  clear hhs b6
  go_wp2_with fail
  refine (rFour_any hs HH.out.2.1 w6).mono ?_
  rintro y w7 ⟨a, c, rfl, o7, b7⟩
  have HO : Hid (BOwn w.heap.size w7 (.slice (some ⟨g', 0, none⟩) bs.length cap) bs) := by
    have h1 := HS.out.1
    rw [Nat.zero_add] at h1
    exact (h1.below HH.out.2.2).below b7
  have H7 : Hid (Below w.heap.size w w7 ∧ BOwn w6.heap.size w7 (.slice (some ⟨a, 0, none⟩) 4 c) (Dsr.four hs) ∧ 4 ≤ c) := ⟨(HS.out.2.trans (HH.out.2.2.mono HS.out.2.size)).trans (b7.mono (Nat.le_trans HS.out.2.size HH.out.2.2.size)), o7, by
    obtain ⟨g2, e2, h2, h3⟩ := own_some (n := 4) o7 (by decide)
    exact h2⟩
  have hw7 : w.heap.size ≤ w7.heap.size := H7.out.1.size
  clear o7 b7
  go_wp2_with (at_builtin; go_loud (refine wpList_append_lies _ rfl (.tmp 10) (.tmp 12) 27 rfl w.heap.size 5 i0 _ 1 1 Tryz.underlying27 hi hz0 hz1 hz2 rfl (by decide) (.slice (some ⟨g', 0, none⟩) bs.length cap) bs.length (bs.map byV) (by simp [Act.eval, Act.put]) HO.out ⟨a, 0, none⟩ 4 c ((Dsr.four hs).map byV) (by simp [Act.eval, Act.put]) (by simp [Dsr.four]) (fun j u hu => World.ownsRow.cells H7.out.2.1 (g := a) rfl j u hu) (by intro u hu; obtain ⟨x, hx, rfl⟩ := List.mem_map.1 hu; rfl) (by decide) (by unfold maxLen; omega) (by omega) hw7 _ rfl ?_); intro g8 cap8 w8 hown hgrow hat hlt8)
  have HF : Hid (BOwn w.heap.size w8 (.slice (some ⟨g8, 0, none⟩) (bs.length + 4) cap8) (Dsr.sealed bs) ∧ Below w.heap.size w w8) := ⟨by
    unfold BOwn Dsr.sealed
    rw [← HH.out.1, List.length_append, List.map_append]
    exact hown, H7.out.1.grown hgrow hw7 (fun k hk => (World.ownsRow.lt HO.out k hk).1)⟩
  clear hown hgrow hat
  go_wp2_with fail
  go_ret
  exact ⟨_, _, _, rfl, HF.out.1, HF.out.2⟩
end Go.Proofs.YtjmcokcdaddpcaaGreatDoor
set_option linter.unusedVariables false
set_option linter.unusedSimpArgs false
namespace Go.Proofs.YtjmcokcdaddpcaaGreatDoor
open Go.RowKit
theorem lst_tok {t : List UInt8} : ∀ {ts : List Dsr.Tok} {n : Nat}, n ≤ t.length → Dsr.Lst t n ts → ∀ k ∈ ts, k.at_ + k.text.length ≤ t.length
  | [], _, _, _, k, hk => by simp at hk
  | a :: ts, n, hn, h, k, hk => by
    obtain ⟨rfl, h2⟩ := h
    have h1 := Dsr.scan_ok t n hn
    rcases List.mem_cons.1 hk with rfl | hk
    · exact h1
    · exact lst_tok h1 h2 k hk
/-- No name is long. -/
def LNm (l : LK) : Prop := ∀ e ∈ l.events, e.name.length ≤ 400 ∧ ∀ r ∈ e.roles, r.length ≤ 400
theorem namedP_ev (l : LK) (k : Dsr.Tok) (room : Bool) (what want : Nat) : (namedP l k room what want).events = l.events ∧ (namedP l k room what want).rules = l.rules := by
  unfold namedP; split <;> (try split) <;> exact ⟨rfl, rfl⟩
theorem LNm.next {l : LK} (h : LNm l) {k : Dsr.Tok} (hk : k.text.length ≤ 400) : LNm (nextP l k) := by
  have hm : ∀ (f : Dsr.Ev → Dsr.Ev), (∀ x, (f x).name = x.name ∧ (f x).roles = x.roles) → ∀ e ∈ modLast f l.events, e.name.length ≤ 400 ∧ ∀ r ∈ e.roles, r.length ≤ 400 := by
    intro f hf x hx
    rcases mem_modLast hx with hx | ⟨y, hy, rfl⟩
    · exact h x hx
    · rw [(hf y).1, (hf y).2]; exact h y hy
  unfold nextP
  split
  · unfold beginP
    split
    · exact h
    · show ∀ e ∈ (namedP _ _ _ _ _).events, _
      rw [(namedP_ev _ _ _ _ _).1]; exact h
  · split
    · intro e he
      rcases List.mem_append.1 he with he | he
      · exact h e he
      · simp at he; subst he; exact ⟨hk, by simp⟩
    · split
      · exact h
      · split
        · intro e he
          rcases mem_modLast he with he | ⟨y, hy, rfl⟩
          · exact h e he
          · refine ⟨(h y hy).1, ?_⟩
            intro r hr
            rcases List.mem_append.1 hr with hr | hr
            · exact (h y hy).2 r hr
            · simp at hr; subst hr; exact hk
        · split
          · exact h
          · split
            · show ∀ e ∈ (namedP _ _ _ _ _).events, _
              rw [(namedP_ev _ _ _ _ _).1]; exact h
            · split
              · exact h
              · unfold markP
                split
                · exact h
                · split
                  · exact hm _ (fun _ => ⟨rfl, rfl⟩)
                  · split
                    · exact hm _ (fun _ => ⟨rfl, rfl⟩)
                    · split
                      · exact hm _ (fun _ => ⟨rfl, rfl⟩)
                      · split <;> exact h
theorem LNext.below {B b : Nat} {w w' : World} {l l' : LK} {s s' : LS} (h : LkAt B b w l s) (n : LNext B b w l s w' l' s') : Below B w w' :=
  ⟨n.kp.os, n.kp.tape, n.kp.output, n.kp.size, fun k hk => by
    have hB := h.low
    have hl := h.lt
    exact n.kp.block k (by omega) (fun hm => by have := (h.rows.lt hm).1; omega)⟩
def ls0 : LS := ⟨.slice none 0 0, .slice none 0 0, .slice none 0 0, []⟩
theorem lk0_at {w : World} {b : Nat} (h : w.heap[b]? = some (.cells (lkCells lk0 ls0) 221 (0, 0))) : LkAt b b w lk0 ls0 := by
  have hb : b < w.heap.size := (Array.getElem?_eq_some_iff.1 h).1
  refine ⟨h, ⟨?_, ?_, ?_⟩, rfl⟩
  · intro r hr
    simp [lkRows, ls0, lk0, roleRows] at hr
    rcases hr with rfl | rfl | rfl
    · exact World.ownsRow_nil _ _ _ _
    · exact World.ownsRow_nil _ _ _ _
    · exact World.ownsRow_nil _ _ _ _
  · simp [lkRows, ls0, lk0, roleRows, Value.ownBlock, Differ]
  · intro f hf
    simp at hf; subst hf
    exact ⟨Nat.le_refl _, hb⟩
/-- What the look over a text comes to: the error, its place, the graph. -/
def ParseP (t : List UInt8) (fe fa : Nat) (ol : Option LK) : Prop :=
  (400 < t.length ∧ fe = 1 ∧ fa = 0 ∧ ol = none) ∨ (t.length ≤ 400 ∧ ∃ ts, Dsr.Lst t 0 ts ∧
    ((∃ l a, runP lk0 (ts ++ [Dsr.endT t.length]) = (l, some a) ∧ fe = l.e ∧ fa = a ∧ ol = none ∧ fe ≠ 0) ∨
     (∃ l, runP lk0 (ts ++ [Dsr.endT t.length]) = (l, none) ∧ ((∃ a, wrongR l.events [] l.uses = some a ∧ fe = 4 ∧ fa = a ∧ ol = none) ∨
       (wrongR l.events [] l.uses = none ∧ ∃ x, TextOf l x ∧ ((400 < x.length ∧ fe = 1 ∧ fa = 0 ∧ ol = none) ∨ (x.length ≤ 400 ∧ fe = 0 ∧ fa = 0 ∧ ol = some l)))))))
def ParseV (w : World) (w' : World) (pv : Value) (ol : Option LK) : Prop := (ol = none → pv = .pointer none) ∧ ∀ l, ol = some l → ∃ B b s, w.heap.size ≤ B ∧ pv = ptrG b ∧ LkAt B b w' l s ∧ LSm l
theorem nextP_end {l : LK} {k : Dsr.Tok} (hk : k.text = []) (hw : isW k = false) (hs : sgn k = 0) (hne : ¬ l.want = 0) (h9 : l.want ≤ 9) : ¬ (nextP l k).e = 0 := by
  have hnm : ∀ (l : LK) (room : Bool) (what want : Nat), (namedP l k room what want).e = 2 := by
    intro l room what want
    unfold namedP
    rw [if_pos (by unfold isName; rw [hw]; rfl)]
  unfold nextP
  rw [if_neg hne]
  have : l.want = 1 ∨ l.want = 2 ∨ l.want = 3 ∨ (l.want = 4 ∨ l.want = 5 ∨ l.want = 6) ∨ l.want = 7 ∨ l.want = 8 ∨ l.want = 9 := by omega
  rcases this with h | h | h | h | h | h | h
  · rw [if_pos h]; show ¬ (namedP l k true 1 2).e = 0; rw [hnm]; decide
  · rw [if_neg (by omega), if_pos h]; show ¬ (if _ then _ else _) = 0; rw [if_neg (by rw [hw]; simp)]; decide
  · rw [if_neg (by omega), if_neg (by omega), if_pos h]; show ¬ (namedP _ k _ 2 4).e = 0; rw [hnm]; decide
  · rw [if_neg (by omega), if_neg (by omega), if_neg (by omega), if_neg (by omega), if_neg (by omega), if_neg (by omega)]
    unfold markP
    rw [hk]
    simp
  · rw [if_neg (by omega), if_neg (by omega), if_neg (by omega), if_neg (by omega), if_neg (by omega), if_pos h, hk]; simp
  · rw [if_neg (by omega), if_neg (by omega), if_neg (by omega), if_pos h, hs]; simp
  · rw [if_neg (by omega), if_neg (by omega), if_neg (by omega), if_neg (by omega), if_pos h]; show ¬ (namedP _ k _ 3 7).e = 0; rw [hnm]; decide
theorem own_lt {w : World} {B : Nat} {e : TypeId} {m g c n : Nat} {xs : List Value} (h : w.ownsRow B e m (.slice (some ⟨g, 0, none⟩) n c) n xs) : g < w.heap.size := (h.lt g rfl).2
theorem tkC_at {w : World} {B g c : Nat} {ks : List Dsr.Tok} (h : w.ownsRow B 223 4 (.slice (some ⟨g, 0, none⟩) ks.length c) ks.length (ks.flatMap tkC)) {i : Nat} {k : Dsr.Tok} (hk : ks[i]? = some k) :
    w.cell? ⟨g, i * 4, none⟩ = some (strV k.text) ∧ w.cell? ⟨g, i * 4 + 1, none⟩ = some (.int .i64 k.at_) ∧ w.cell? ⟨g, i * 4 + 2, none⟩ = some (.bool (isW k)) ∧ w.cell? ⟨g, i * 4 + 3, none⟩ = some (.int .i64 (sgn k)) := by
  have e := fun j hj => flatM2 4 tkC (fun _ => rfl) ks i k j hk hj
  exact ⟨own_at h ((e 0 (by omega)).trans rfl), own_at h ((e 1 (by omega)).trans rfl), own_at h ((e 2 (by omega)).trans rfl), own_at h ((e 3 (by omega)).trans rfl)⟩
set_option maxRecDepth 100000 in
set_option maxHeartbeats 3200000 in
theorem rParse_any (t : ByteArray) (w : World) :
    Calls Tryz.prog 71 #[.string t] w fun e w' => ∃ pv fe fa ol, e = .returned (.tuple #[pv, .int .i64 (fe : Nat), .int .i64 (fa : Nat)]) ∧ ParseP t.data.toList fe fa ol ∧ ParseV w w' pv ol ∧ Below w.heap.size w w' := by
  have hsz : t.data.toList.length = t.size := by simp
  by_cases ht : 400 < t.size
  · have htI : (400 : Int) < (t.size : Int) := by omega
    go_enter Tryz.func71, Tryz.ntmps71
    go_wp2_with fail
    go_ret3
    exact ⟨.pointer none, 1, 0, none, rfl, .inl ⟨by omega, rfl, rfl, rfl⟩, ⟨fun _ => rfl, fun l h => by cases h⟩, Below.refl _ _⟩
  · have htI : ¬ (400 : Int) < (t.size : Int) := by omega
    have hts : t.size ≤ 400 := by omega
    go_enter Tryz.func71, Tryz.ntmps71
    go_wp2_with fail
    refine (rTokens_any t w hts).mono ?_
    rintro e w1 ⟨v, ts, rfl, hL, htl, hown, hb⟩
    obtain ⟨ks, hks⟩ : ∃ ks, ts ++ [Dsr.endT t.size] = ks := ⟨_, rfl⟩
    have hkl : ks.length = ts.length + 1 := by rw [← hks]; simp
    rw [hks, ← hkl] at hown
    obtain ⟨a, c, rfl⟩ := owned_shape hown
    obtain ⟨g, rfl, hc1, hc2⟩ := own_some hown (by omega)
    have hkt : ∀ k ∈ ks, k.text.length ≤ 400 := by
      intro k hk
      rw [← hks] at hk
      rcases List.mem_append.1 hk with hk | hk
      · have := lst_tok (Nat.zero_le _) hL k hk; omega
      · simp at hk; subst hk; simp
    have HK : Hid (Dsr.Lst t.data.toList 0 ts ∧ ts ++ [Dsr.endT t.size] = ks ∧ w1.ownsRow w.heap.size 223 4 (.slice (some ⟨g, 0, none⟩) ks.length c) ks.length (ks.flatMap tkC) ∧ Below w.heap.size w w1 ∧ ∀ k ∈ ks, k.text.length ≤ 400) := ⟨hL, hks, hown, hb, hkt⟩
    have hkI : (ks.length : Int) ≤ 401 := by omega
    have hkN : ks.length ≤ 401 := by omega
    have hk0 : 0 < ks.length := by omega
    clear hL hks hown hb hkt hkl htl
    go_wp2_with fail
    have hA0 : LkAt w1.heap.size w1.heap.size (w1.alloc (.cells (lkCells lk0 ls0) 221)) lk0 ls0 := lk0_at (heap_alloc_new _ _)
    go_loopg [7] ks.length (fun g iv wr => ∃ (n : Nat) (l : LK) (s : LS), iv = .int .i64 n ∧ n + g = ks.length ∧ n < ks.length ∧ LkAt w1.heap.size w1.heap.size wr l s ∧ LInv l n ∧ LNm l ∧ l.e = 0 ∧ runP l (ks.drop n) = runP lk0 ks ∧ Below w1.heap.size w1 wr)
    case atStart => exact ⟨0, lk0, ls0, rfl, by omega, hk0, hA0, lk0_inv, fun e he => by simp [lk0] at he, rfl, rfl, below_alloc1 _⟩
    case round =>
      obtain ⟨n, l, s, rfl, hn, hi, hla, hinv, hnm, hle, hrun, hb⟩ := hrel
      have HLA : Hid (LkAt w1.heap.size w1.heap.size wr l s) := hla
      have HI : Hid (LInv l n ∧ LNm l ∧ l.e = 0 ∧ Below w1.heap.size w1 wr) := ⟨hinv, hnm, hle, hb⟩
      obtain ⟨c0, c1, c2, c3, c4, c5, c6, c7, c8, fz⟩ := hla.cells
      have hlt := hla.lt
      have hgw : g < w1.heap.size := by
        have := own_lt HK.out.2.2.1; exact this
      have hwr1 := hb.size
      have hgr : g < wr.heap.size := by omega
      obtain ⟨k, hk⟩ : ∃ k, ks[n]? = some k := ⟨_, List.getElem?_eq_getElem hi⟩
      obtain ⟨m, rfl⟩ : ∃ m, gk = m + 1 := ⟨gk - 1, by omega⟩
      obtain ⟨e0, e1, e2, e3⟩ := tkC_at (ownsRow_of_block HK.out.2.2.1 (fun k hk _ => hb.block k hk)) hk
      have hk4 : k.text.length ≤ 400 := HK.out.2.2.2.2 k (List.mem_of_getElem? hk)
      rw [drop_at hk, runP] at hrun
      by_cases hst : k.text = [] ∧ l.want = 0
      · rw [if_pos hst] at hrun
        have hrun0 := hrun.symm
        have h1 : (k.text == []) = true := by rw [hst.1]; rfl
        have h2 : ((l.want : Int) == 0) = true := by rw [hst.2]; rfl
        obtain ⟨kt, hkt⟩ : ∃ kt, kt = k.text := ⟨_, rfl⟩
        have hkt0 := hst.1
        rw [hkt0] at e0
        have hw0 := hst.2
        rw [hw0] at c0
        clear hrun hla hinv hnm hle hb hst h1 h2 hkt kt hkt0 hw0 c1 c2 c4 c5 c6 c7 c8
        have HR : Hid (runP lk0 ks = (l, none)) := hrun0
        clear hrun0
        go_wp2_with fail
        refine (rwrong_any HLA.out (by have := HI.out.1.events; omega) (by have := HI.out.1.uses; omega)).mono ?_
        rintro e w2 ⟨rfl, b2⟩
        have HB2 : Hid (Below w1.heap.size w1 w2) := HI.out.2.2.2.trans (b2.mono HI.out.2.2.2.size)
        have HL2 : Hid (LkAt w1.heap.size w1.heap.size w2 l s) := HLA.out.aside b2
        clear b2
        rcases hwr : wrongR l.events [] l.uses with _ | av
        · have HW : Hid (wrongR l.events [] l.uses = none) := hwr
          clear hwr
          have HSm : Hid (LSm l) := ⟨by have := HI.out.1.events; omega, by have := HI.out.1.rules; omega, fun e he => (HI.out.2.1 e he).1, fun e he => by have := HI.out.1.each e he; omega, fun e he => (HI.out.2.1 e he).2⟩
          go_wp2_with fail
          refine (rText_any HL2.out HSm.out).mono ?_
          rintro e w3 ⟨tx, rfl, htx, htxl, b3⟩
          have HB3 : Hid (Below w.heap.size w w3) := HK.out.2.2.2.1.trans ((HB2.out.trans (b3.mono HB2.out.size)).mono HK.out.2.2.2.1.size)
          have HL3 : Hid (LkAt w1.heap.size w1.heap.size w3 l s ∧ TextOf l tx) := ⟨HL2.out.aside b3, htx⟩
          clear htx b3
          by_cases h4 : 400 < tx.length
          · have h4I : (400 : Int) < (tx.length : Int) := by omega
            go_wp2_with fail
            go_ret3
            exact ⟨.pointer none, 1, 0, none, rfl, .inr ⟨by omega, ts, HK.out.1, .inr ⟨l, by rw [hsz, HK.out.2.1]; exact HR.out, .inr ⟨HW.out, tx, HL3.out.2, .inl ⟨h4, rfl, rfl, rfl⟩⟩⟩⟩, ⟨fun _ => rfl, fun l h => by cases h⟩, HB3.out⟩
          · have h4I : ¬ (400 : Int) < (tx.length : Int) := by omega
            go_wp2_with fail
            go_ret3
            exact ⟨ptrG w1.heap.size, 0, 0, some l, rfl, .inr ⟨by omega, ts, HK.out.1, .inr ⟨l, by rw [hsz, HK.out.2.1]; exact HR.out, .inr ⟨HW.out, tx, HL3.out.2, .inr ⟨by omega, rfl, rfl, rfl⟩⟩⟩⟩, ⟨fun h => (by cases h), fun l' h => by cases h; exact ⟨w1.heap.size, w1.heap.size, s, HK.out.2.2.2.1.size, rfl, HL3.out.1, HSm.out⟩⟩, HB3.out⟩
        · have HW : Hid (wrongR l.events [] l.uses = some av) := hwr
          clear hwr
          have havI : (0 : Int) ≤ (av : Int) := by omega
          have HB3 : Hid (Below w.heap.size w w2) := HK.out.2.2.2.1.trans (HB2.out.mono HK.out.2.2.2.1.size)
          go_wp2_with fail
          go_ret3
          exact ⟨.pointer none, 4, av, none, rfl, .inr ⟨by omega, ts, HK.out.1, .inr ⟨l, by rw [hsz, HK.out.2.1]; exact HR.out, .inl ⟨av, HW.out, rfl, rfl, rfl⟩⟩⟩, ⟨fun _ => rfl, fun l h => by cases h⟩, HB3.out⟩
      · rw [if_neg hst] at hrun
        have HRU : Hid ((if (nextP l k).e ≠ 0 then (nextP l k, some k.at_) else runP (nextP l k) (ks.drop (n + 1))) = runP lk0 ks ∧ ks[n]? = some k) := ⟨hrun, hk⟩
        clear hrun hla hinv hnm hle hb c1 c2 c4 c5 c6 c7 c8 hk
        have HST : Hid (¬ (k.text = [] ∧ l.want = 0)) := hst
        have RN := rnext_any k HLA.out HI.out.1 (by omega) (by omega)
        by_cases hkt : k.text = []
        · have hw0 : ((l.want : Int) == 0) = false := by
            have : ¬ l.want = 0 := fun h => hst ⟨hkt, h⟩
            simpa using this
          rw [show tkV k = .agg #[strV [], .int .i64 k.at_, .bool (isW k), .int .i64 (sgn k)] from by unfold tkV; rw [hkt]] at RN
          rw [hkt] at e0
          clear hst hkt
          go_wp2_with fail
          refine RN.mono ?_
          rintro e w2 ⟨rfl, s2, N2⟩
          have b2 := N2.below HLA.out
          obtain ⟨d0, d1, d2, d3, d4, d5, d6, d7, d8, fz2⟩ := N2.lk.cells
          have hlt2 := N2.lk.lt
          have e1' : w2.cell? ⟨g, n * 4 + 1, none⟩ = some (.int .i64 k.at_) := by rw [b2.cell (p := ⟨g, n * 4 + 1, none⟩) hgw]; exact e1
          have HB2 : Hid (Below w1.heap.size w1 w2) := HI.out.2.2.2.trans b2
          have HN2 : Hid (LkAt w1.heap.size w1.heap.size w2 (nextP l k) s2) := N2.lk
          have hgr2 : g < w2.heap.size := by have := HB2.out.size; omega
          clear N2 b2 e0 e1 e2 e3 c0 c3 fz d0 d1 d2 d4 d5 d6 d7 d8
          by_cases hee : (nextP l k).e = 0
          · have HE : Hid ((nextP l k).e = 0) := hee
            rw [hee] at d3
            clear hee
            go_wp2_with fail
            go_roundg m
            case measure => omega
            case rel =>
              have h1 := HRU.out.1
              rw [if_neg (by rw [HE.out]; decide)] at h1
              have hlast : n + 1 < ks.length := by
                rcases Nat.lt_or_ge (n + 1) ks.length with h | h
                · exact h
                · exfalso
                  have hkn : k = Dsr.endT t.size := by
                    have h2 := HRU.out.2
                    rw [← HK.out.2.1] at h2 hi h
                    have : n = ts.length := by simp at hi h; omega
                    subst this
                    simp at h2
                    exact h2.symm
                  exact nextP_end (by rw [hkn]) (by rw [hkn]; rfl) (by rw [hkn]; rfl) (fun h => HST.out ⟨by rw [hkn], h⟩) HI.out.1.want HE.out
              exact ⟨n + 1, nextP l k, s2, by go_num, by omega, hlast, HN2.out, HI.out.1.next k HE.out, HI.out.2.1.next hk4, HE.out, h1, HB2.out⟩
          · have hb : (((nextP l k).e : Int) != 0) = true := by simp; omega
            have HE : Hid (¬ (nextP l k).e = 0) := hee
            have HB3 : Hid (Below w.heap.size w w2) := HK.out.2.2.2.1.trans (HB2.out.mono HK.out.2.2.2.1.size)
            clear hee
            obtain ⟨ne, hne⟩ : ∃ ne, (nextP l k).e = ne := ⟨_, rfl⟩
            rw [hne] at d3 hb
            have HNE : Hid ((nextP l k).e = ne) := hne
            clear hne
            go_wp2_with fail
            go_quiet (fail)
            go_wp2_with fail
            go_ret3
            have h1 := HRU.out.1
            rw [if_pos HE.out] at h1
            exact ⟨.pointer none, ne, k.at_, none, rfl, .inr ⟨by omega, ts, HK.out.1, .inl ⟨nextP l k, k.at_, by rw [hsz, HK.out.2.1]; exact h1.symm, HNE.out.symm, rfl, rfl, by rw [← HNE.out]; exact HE.out⟩⟩, ⟨fun _ => rfl, fun l h => by cases h⟩, ⟨HB3.out.os, HB3.out.tape, HB3.out.output, HB3.out.size, HB3.out.block⟩⟩
        · have h1 : (k.text == []) = false := beq_eq_false_iff_ne.2 hkt
          clear hst hkt
          go_wp2_with fail
          refine RN.mono ?_
          rintro e w2 ⟨rfl, s2, N2⟩
          have b2 := N2.below HLA.out
          obtain ⟨d0, d1, d2, d3, d4, d5, d6, d7, d8, fz2⟩ := N2.lk.cells
          have hlt2 := N2.lk.lt
          have e1' : w2.cell? ⟨g, n * 4 + 1, none⟩ = some (.int .i64 k.at_) := by rw [b2.cell (p := ⟨g, n * 4 + 1, none⟩) hgw]; exact e1
          have HB2 : Hid (Below w1.heap.size w1 w2) := HI.out.2.2.2.trans b2
          have HN2 : Hid (LkAt w1.heap.size w1.heap.size w2 (nextP l k) s2) := N2.lk
          have hgr2 : g < w2.heap.size := by have := HB2.out.size; omega
          clear N2 b2 e0 e1 e2 e3 c0 c3 fz d0 d1 d2 d4 d5 d6 d7 d8
          by_cases hee : (nextP l k).e = 0
          · have HE : Hid ((nextP l k).e = 0) := hee
            rw [hee] at d3
            clear hee
            go_wp2_with fail
            go_roundg m
            case measure => omega
            case rel =>
              have h1 := HRU.out.1
              rw [if_neg (by rw [HE.out]; decide)] at h1
              have hlast : n + 1 < ks.length := by
                rcases Nat.lt_or_ge (n + 1) ks.length with h | h
                · exact h
                · exfalso
                  have hkn : k = Dsr.endT t.size := by
                    have h2 := HRU.out.2
                    rw [← HK.out.2.1] at h2 hi h
                    have : n = ts.length := by simp at hi h; omega
                    subst this
                    simp at h2
                    exact h2.symm
                  exact nextP_end (by rw [hkn]) (by rw [hkn]; rfl) (by rw [hkn]; rfl) (fun h => HST.out ⟨by rw [hkn], h⟩) HI.out.1.want HE.out
              exact ⟨n + 1, nextP l k, s2, by go_num, by omega, hlast, HN2.out, HI.out.1.next k HE.out, HI.out.2.1.next hk4, HE.out, h1, HB2.out⟩
          · have hb : (((nextP l k).e : Int) != 0) = true := by simp; omega
            have HE : Hid (¬ (nextP l k).e = 0) := hee
            have HB3 : Hid (Below w.heap.size w w2) := HK.out.2.2.2.1.trans (HB2.out.mono HK.out.2.2.2.1.size)
            clear hee
            obtain ⟨ne, hne⟩ : ∃ ne, (nextP l k).e = ne := ⟨_, rfl⟩
            rw [hne] at d3 hb
            have HNE : Hid ((nextP l k).e = ne) := hne
            clear hne
            go_wp2_with fail
            go_quiet (fail)
            go_wp2_with fail
            go_ret3
            have h1 := HRU.out.1
            rw [if_pos HE.out] at h1
            exact ⟨.pointer none, ne, k.at_, none, rfl, .inr ⟨by omega, ts, HK.out.1, .inl ⟨nextP l k, k.at_, by rw [hsz, HK.out.2.1]; exact h1.symm, HNE.out.symm, rfl, rfl, by rw [← HNE.out]; exact HE.out⟩⟩, ⟨fun _ => rfl, fun l h => by cases h⟩, ⟨HB3.out.os, HB3.out.tape, HB3.out.output, HB3.out.size, HB3.out.block⟩⟩
end Go.Proofs.YtjmcokcdaddpcaaGreatDoor
set_option linter.unusedVariables false
set_option linter.unusedSimpArgs false
namespace Go.Proofs.YtjmcokcdaddpcaaGreatDoor
open Go.RowKit
/-- A case by the document. -/
structure RC where
  l : LK
  reqs : List (List UInt8 × List UInt8)
  log : List UInt8
  wr : List UInt8
  we : List UInt8
  bytes : List UInt8
structure RA where
  B : Nat
  b : Nat
  s : LS
  vq : Value
  vl : Value
  vb : Value
structure ROk (c : RC) : Prop where
  sm : LSm c.l
  rq : c.reqs.length ≤ 200
  lg : c.log.length ≤ 2000
  lo : 8 ≤ c.log.length
  by_ : c.bytes.length ≤ 100
  wrl : c.wr.length ≤ 8
  wel : c.we.length ≤ 8
  sz : 16 * c.reqs.length + 8 ≤ c.log.length
  bo : c.bytes.length = 0 ∨ (16 ≤ c.bytes.length ∧ c.log.length + c.bytes.length ≤ 2000)
structure RcAt (N : Nat) (w : World) (cb : Nat) (c : RC) (a : RA) : Prop where
  blk : w.heap[cb]? = some (.cells #[ptrG a.b, a.vq, a.vl, strV c.wr, strV c.we, a.vb] 240 (0, 0))
  lk : LkAt a.B a.b w c.l a.s
  rq : w.ownsRow N 238 2 a.vq c.reqs.length (c.reqs.flatMap rqC)
  lg : BOwn N w a.vl c.log
  by_ : BOwn N w a.vb c.bytes
  low : N ≤ cb ∧ N ≤ a.B
  ok : ROk c
/-- Its blocks. -/
def RFoot (c : RC) (a : RA) (cb k : Nat) : Prop := k = cb ∨ LMine a.b c.l a.s k ∨ a.vq.ownBlock = some k ∨ a.vl.ownBlock = some k ∨ a.vb.ownBlock = some k
theorem LkAt.same {B b : Nat} {w w' : World} {l : LK} {s : LS} (h : LkAt B b w l s) (hs : w.heap.size ≤ w'.heap.size) (hk : ∀ k, k < w.heap.size → LMine b l s k → w'.heap[k]? = w.heap[k]?) : LkAt B b w' l s :=
  ⟨(hk b h.lt (.inl (by simp))).trans h.blk, h.rows.same hs hk, h.len⟩
theorem RcAt.same {N : Nat} {w w' : World} {cb : Nat} {c : RC} {a : RA} (h : RcAt N w cb c a) (hs : w.heap.size ≤ w'.heap.size) (hk : ∀ k, k < w.heap.size → RFoot c a cb k → w'.heap[k]? = w.heap[k]?) : RcAt N w' cb c a :=
  ⟨(hk cb (Array.getElem?_eq_some_iff.1 h.blk).1 (.inl rfl)).trans h.blk, h.lk.same hs (fun k h1 h2 => hk k h1 (.inr (.inl h2))), ownsRow_of_block h.rq (fun k h1 h2 => hk k h1 (.inr (.inr (.inl h2)))), h.lg.block (fun k h1 h2 => hk k h1 (.inr (.inr (.inr (.inl h2))))), h.by_.block (fun k h1 h2 => hk k h1 (.inr (.inr (.inr (.inr h2))))), h.low, h.ok⟩
theorem RcAt.below {N : Nat} {w w' : World} {cb : Nat} {c : RC} {a : RA} (h : RcAt N w cb c a) (hb : Below w.heap.size w w') : RcAt N w' cb c a := h.same hb.size fun k h1 _ => hb.block k h1
theorem RcAt.lt {N : Nat} {w : World} {cb : Nat} {c : RC} {a : RA} (h : RcAt N w cb c a) : cb < w.heap.size := (Array.getElem?_eq_some_iff.1 h.blk).1
theorem RcAt.footLt {N : Nat} {w : World} {cb : Nat} {c : RC} {a : RA} (h : RcAt N w cb c a) {k : Nat} (hk : RFoot c a cb k) : N ≤ k ∧ k < w.heap.size := by
  rcases hk with rfl | hk | hk | hk | hk
  · exact ⟨h.low.1, h.lt⟩
  · have := h.lk.rows.lt hk
    exact ⟨Nat.le_trans h.low.2 this.1, this.2⟩
  · exact h.rq.lt k hk
  · exact World.ownsRow.lt h.lg k hk
  · exact World.ownsRow.lt h.by_ k hk
theorem cells6R {w : World} {b : Nat} {c0 c1 c2 c3 c4 c5 : Value} {T : TypeId} (h : w.heap[b]? = some (.cells #[c0, c1, c2, c3, c4, c5] T (0, 0))) :
    w.cell? ⟨b, 0, none⟩ = some c0 ∧ w.cell? ⟨b, 1, none⟩ = some c1 ∧ w.cell? ⟨b, 2, none⟩ = some c2 ∧ w.cell? ⟨b, 3, none⟩ = some c3 ∧ w.cell? ⟨b, 4, none⟩ = some c4 ∧ w.cell? ⟨b, 5, none⟩ = some c5 ∧ ∀ o, w.frozen? ⟨b, o, none⟩ = false := by
  refine ⟨?_, ?_, ?_, ?_, ?_, ?_, fun o => ?_⟩ <;> simp [World.cell?, World.frozen?, h]
set_option maxRecDepth 100000 in
set_option maxHeartbeats 1600000 in
theorem rHeadRec_any {B b : Nat} {w : World} {l : LK} {s : LS} (h : LkAt B b w l s) (hs : LSm l) (hx : ∀ x, TextOf l x → x.length ≤ 400) :
    Calls Tryz.prog 121 #[ptrG b] w fun e w' => ∃ x a m c, e = .returned (.slice a m c) ∧ TextOf l x ∧ BOwn w.heap.size w' (.slice a m c) (Dsr.sealed (Dsr.headOf x)) ∧ Below w.heap.size w w' := by
  have H : Hid (LkAt B b w l s ∧ LSm l ∧ (∀ x, TextOf l x → x.length ≤ 400)) := ⟨h, hs, hx⟩
  clear h hs hx
  obtain ⟨i0, hi, hz0, hz1, hz2⟩ := info_parts info_u8
  go_enter Tryz.func121, Tryz.ntmps121
  go_wp2_with fail
  refine (rText_any H.out.1 H.out.2.1).mono ?_
  rintro y w1 ⟨t, rfl, ht, hlt, b1⟩
  have hz : (t.length : Int) ≤ 400 := by have := H.out.2.2 t ht; omega
  have H1 : Hid (TextOf l t ∧ Below w.heap.size w w1) := ⟨ht, b1⟩
  clear ht b1 hlt
  have hnw : Hid ([68, 49, Dsr.byte (t.length / 256), Dsr.byte t.length].map byV = [.int .u8 68, .int .u8 49, .int .u8 ((t.length : Int) / 256), .int .u8 ((t.length : Int) % 256)]) := by
    show _ = _
    simp only [List.map_cons, List.map_nil, byV_byte]
    congr 3
    congr 1
    congr 1
    omega
  have HO : Hid ((w1.alloc (.cells #[.int .u8 68, .int .u8 49, .int .u8 ((t.length : Int) / 256), .int .u8 ((t.length : Int) % 256)] 5)).ownsRow w1.heap.size 5 1 (.slice (some ⟨w1.heap.size, 0, none⟩) 4 4) 4 ([68, 49, Dsr.byte (t.length / 256), Dsr.byte t.length].map byV)) := by
    have := own_built (w := w1) (T := 5) (B := w1.heap.size) (vs := [68, 49, Dsr.byte (t.length / 256), Dsr.byte t.length].map byV) (n := 4) rfl (by unfold maxLen; omega) (Nat.le_refl _)
    rw [hnw.out] at this ⊢
    exact this
  go_wp2_with (at_builtin; go_loud (refine Lib.wpList_append_own_string _ rfl (.tmp 16) (.tmp 17) 27 9 rfl w1.heap.size 5 i0 Tryz.underlying27 Tryz.underlying9 hi hz0 hz1 hz2 (.slice (some ⟨w1.heap.size, 0, none⟩) 4 4) 4 _ (by simp [Act.eval, Act.put]) HO.out ⟨t.toArray⟩ (by simp [Act.eval, Act.put]) (by unfold maxLen; simp [ByteArray.size]; omega) (by simp [ByteArray.size]; omega) (by simp) ?_); intro v6 w6 hown6 hgrow6 hnil6)
  obtain ⟨HS6, a6, n6, c6, hv6⟩ := text_step (B := w1.heap.size) (w := w1.alloc _) (bs := [68, 49, Dsr.byte (t.length / 256), Dsr.byte t.length]) (t := t) ⟨HO.out, Below.refl _ _⟩ (by simp) rfl hown6 hgrow6
  subst hv6
  clear hown6 hgrow6 hnil6
  have e6 : [68, 49, Dsr.byte (t.length / 256), Dsr.byte t.length] ++ t = Dsr.headOf t := rfl
  rw [e6] at HS6
  go_wp2_with fail
  refine (rSealed_any HS6.out.own (by rw [Dsr.headOf_len]; omega) (by intro e; have := congrArg List.length e; rw [Dsr.headOf_len] at this; simp at this)).mono ?_
  rintro y w7 ⟨a, m, c, rfl, o7, b7⟩
  have HB : Hid (Below w1.heap.size w1 w6) := ((Below.refl _ _).alloc (Nat.le_refl _) _).trans HS6.out.bel
  have HF : Hid (BOwn w.heap.size w7 (.slice a m c) (Dsr.sealed (Dsr.headOf t)) ∧ Below w.heap.size w w7) := ⟨own_mono o7 (Nat.le_trans H1.out.2.size HB.out.size), (H1.out.2.trans (HB.out.mono H1.out.2.size)).trans (b7.mono (Nat.le_trans H1.out.2.size HB.out.size))⟩
  clear o7 b7
  go_wp2_with fail
  go_ret
  exact ⟨t, a, m, c, rfl, H1.out.1, HF.out.1, HF.out.2⟩
theorem new_case {w w1 : World} {B b : Nat} {l : LK} {s : LS} {sa : Option Addr} {sn sc N : Nat} {x : List UInt8} (h : LkAt B b w1 l s) (hs : LSm l) (ho : BOwn w.heap.size w1 (.slice sa sn sc) (Dsr.sealed (Dsr.headOf x))) (hN : N ≤ w.heap.size) (hNB : N ≤ B) (hw : w.heap.size ≤ w1.heap.size) (hx : x.length ≤ 400) :
    RcAt N (w1.alloc (.cells #[ptrG b, .slice none 0 0, .slice sa sn sc, .string ⟨#[]⟩, .string ⟨#[]⟩, .slice none 0 0] 240)) w1.heap.size ⟨l, [], Dsr.sealed (Dsr.headOf x), [], [], []⟩ ⟨B, b, s, .slice none 0 0, .slice sa sn sc, .slice none 0 0⟩ := by
  have hb : Below w1.heap.size w1 (w1.alloc (.cells #[ptrG b, .slice none 0 0, .slice sa sn sc, .string ⟨#[]⟩, .string ⟨#[]⟩, .slice none 0 0] 240)) := (Below.refl _ _).alloc (Nat.le_refl _) _
  refine ⟨heap_alloc_new _ _, h.aside hb, World.ownsRow_nil _ _ _ _, own_mono (ho.below hb) hN, World.ownsRow_nil _ _ _ _, ⟨by omega, hNB⟩, ⟨hs, by simp, ?_, ?_, by simp, by simp, by simp, ?_, .inl rfl⟩⟩
  · show (Dsr.sealed (Dsr.headOf x)).length ≤ 2000
    rw [Dsr.sealed_len, Dsr.headOf_len]; omega
  · show 8 ≤ (Dsr.sealed (Dsr.headOf x)).length
    rw [Dsr.sealed_len, Dsr.headOf_len]; omega
  · show 16 * 0 + 8 ≤ (Dsr.sealed (Dsr.headOf x)).length
    rw [Dsr.sealed_len, Dsr.headOf_len]; omega
set_option maxRecDepth 100000 in
set_option maxHeartbeats 1600000 in
theorem rcBegin_any {B b N : Nat} {w : World} {l : LK} {s : LS} (h : LkAt B b w l s) (hs : LSm l) (hx : ∀ x, TextOf l x → x.length ≤ 400) (hN : N ≤ w.heap.size) (hNB : N ≤ B) :
    Calls Tryz.prog 120 #[ptrG b] w fun e w' => ∃ x cb a, e = .returned (ptr cb) ∧ TextOf l x ∧ RcAt N w' cb ⟨l, [], Dsr.sealed (Dsr.headOf x), [], [], []⟩ a ∧ (a.b = b ∧ a.s = s ∧ a.vq = .slice none 0 0 ∧ a.vb = .slice none 0 0 ∧ ∀ k, a.vl.ownBlock = some k → w.heap.size ≤ k) ∧ w.heap.size ≤ cb ∧ Below w.heap.size w w' := by
  have H : Hid (LkAt B b w l s ∧ LSm l ∧ (∀ x, TextOf l x → x.length ≤ 400)) := ⟨h, hs, hx⟩
  clear h hs hx
  go_enter Tryz.func120, Tryz.ntmps120
  go_wp2_with fail
  refine (rHeadRec_any H.out.1 H.out.2.1 H.out.2.2).mono ?_
  rintro y w1 ⟨x, sa, sn, sc, rfl, ht, ho, b1⟩
  have H1 : Hid (RcAt N (w1.alloc (.cells #[ptrG b, .slice none 0 0, .slice sa sn sc, .string ⟨#[]⟩, .string ⟨#[]⟩, .slice none 0 0] 240)) w1.heap.size ⟨l, [], Dsr.sealed (Dsr.headOf x), [], [], []⟩ ⟨B, b, s, .slice none 0 0, .slice sa sn sc, .slice none 0 0⟩ ∧ TextOf l x ∧ Below w.heap.size w w1 ∧ BOwn w.heap.size w1 (.slice sa sn sc) (Dsr.sealed (Dsr.headOf x))) := ⟨new_case (H.out.1.aside b1) H.out.2.1 ho hN hNB b1.size (H.out.2.2 x ht), ht, b1, ho⟩
  clear ht ho b1
  go_wp2_with fail
  go_ret
  exact ⟨x, w1.heap.size, _, rfl, H1.out.2.1, H1.out.1, ⟨rfl, rfl, rfl, rfl, fun k hk => (World.ownsRow.lt H1.out.2.2.2 k hk).1⟩, H1.out.2.2.1.size, H1.out.2.2.1.alloc H1.out.2.2.1.size _⟩
/-- What the document's New answers. -/
def RNewP (N : Nat) (t : List UInt8) (w' : World) (pv sv : Value) (fe : Nat) : Prop :=
  ∃ fa ol, ParseP t fe fa ol ∧ (ol = none → pv = .pointer none ∧ sv = .slice none 0 0) ∧ ∀ l, ol = some l → ∃ x cb a, TextOf l x ∧ pv = ptr cb ∧ RcAt N w' cb ⟨l, [], Dsr.sealed (Dsr.headOf x), [], [], []⟩ a ∧ BOwn N w' sv (Dsr.sealed (Dsr.headOf x)) ∧ ∀ k, sv.ownBlock = some k → ¬ RFoot ⟨l, [], Dsr.sealed (Dsr.headOf x), [], [], []⟩ a cb k
theorem parse_some {t : List UInt8} {fe fa : Nat} {l : LK} (h : ParseP t fe fa (some l)) : fe = 0 ∧ fa = 0 ∧ ∃ x, TextOf l x ∧ x.length ≤ 400 := by
  rcases h with ⟨_, _, _, h⟩ | ⟨_, ts, _, ⟨_, _, _, _, _, h, _⟩ | ⟨l2, _, ⟨_, _, _, _, h⟩ | ⟨_, x, hx, ⟨_, _, _, h⟩ | ⟨h1, h2, h3, h4⟩⟩⟩⟩
  · cases h
  · cases h
  · cases h
  · cases h
  · cases h4
    exact ⟨h2, h3, x, hx, h1⟩
theorem parse_none {t : List UInt8} {fe fa : Nat} (h : ParseP t fe fa none) : fe ≠ 0 := by
  rcases h with ⟨_, h, _⟩ | ⟨_, ts, _, ⟨_, _, _, _, _, _, h⟩ | ⟨l2, _, ⟨_, _, h, _⟩ | ⟨_, x, hx, ⟨_, h, _⟩ | ⟨h1, h2, h3, h4⟩⟩⟩⟩
  · omega
  · exact h
  · omega
  · omega
  · cases h4
set_option maxRecDepth 100000 in
set_option maxHeartbeats 1600000 in
theorem rcNew_any (t : ByteArray) (w : World) (hu : ∀ l x y, TextOf l x → TextOf l y → x = y) :
    Calls Tryz.prog 73 #[.string t] w fun e w' => ∃ pv sa n sc fe, e = .returned (.tuple #[pv, .slice sa n sc, .int .i64 (fe : Nat)]) ∧ Below w.heap.size w w' ∧ RNewP w.heap.size t.data.toList w' pv (.slice sa n sc) fe := by
  have HU : Hid (∀ l x y, TextOf l x → TextOf l y → x = y) := hu
  clear hu
  go_enter Tryz.func73, Tryz.ntmps73
  go_wp2_with fail
  refine (rParse_any t w).mono ?_
  rintro y w1 ⟨pv, fe, fa, ol, rfl, hp, hv, b1⟩
  rcases ol with _ | l
  · have hpv := hv.1 rfl
    subst hpv
    have hne : ((fe : Int) == 0) = false := by have := parse_none hp; simp; omega
    have H1 : Hid (ParseP t.data.toList fe fa none ∧ Below w.heap.size w w1) := ⟨hp, b1⟩
    clear hp hv b1
    go_wp2_with fail
    go_ret3
    exact ⟨_, _, _, _, fe, rfl, H1.out.2, fa, none, H1.out.1, fun _ => ⟨rfl, rfl⟩, fun l h => by cases h⟩
  · obtain ⟨B, b, s, hB, rfl, hlk, hsm⟩ := hv.2 l rfl
    obtain ⟨rfl, rfl, x0, hx0, hl0⟩ := parse_some hp
    have H1 : Hid (ParseP t.data.toList 0 0 (some l) ∧ Below w.heap.size w w1 ∧ LkAt B b w1 l s ∧ LSm l ∧ w.heap.size ≤ B ∧ (∀ x, TextOf l x → x.length ≤ 400)) := ⟨hp, b1, hlk, hsm, hB, fun x hx => by rw [HU.out l x x0 hx hx0]; exact hl0⟩
    clear hp hv b1 hlk hsm hx0 hl0
    go_wp2_with fail
    refine (rcBegin_any (N := w.heap.size) H1.out.2.2.1 H1.out.2.2.2.1 H1.out.2.2.2.2.2 H1.out.2.1.size hB).mono ?_
    rintro y w2 ⟨x, cb, a, rfl, hx, hc, ha, hcb, b2⟩
    have H2 : Hid (TextOf l x ∧ RcAt w.heap.size w2 cb ⟨l, [], Dsr.sealed (Dsr.headOf x), [], [], []⟩ a ∧ (a.b = b ∧ a.s = s ∧ a.vq = .slice none 0 0 ∧ a.vb = .slice none 0 0 ∧ ∀ k, a.vl.ownBlock = some k → w1.heap.size ≤ k) ∧ Below w1.heap.size w1 w2) := ⟨hx, hc, ha, b2⟩
    clear hx hc ha b2
    go_wp2_with fail
    refine (rHeadRec_any (H1.out.2.2.1.aside H2.out.2.2.2) H1.out.2.2.2.1 H1.out.2.2.2.2.2).mono ?_
    rintro y w3 ⟨x3, sa, sn, sc, rfl, h3, ho3, b3⟩
    have hxx := HU.out l x3 x h3 H2.out.1
    subst hxx
    have H3 : Hid (BOwn w2.heap.size w3 (.slice sa sn sc) (Dsr.sealed (Dsr.headOf x3)) ∧ Below w2.heap.size w2 w3) := ⟨ho3, b3⟩
    clear h3 ho3 b3
    go_wp2_with fail
    go_ret3
    have hw1 := H1.out.2.1.size
    have hw2 := H2.out.2.2.2.size
    refine ⟨_, _, _, _, 0, rfl, (H1.out.2.1.trans (H2.out.2.2.2.mono hw1)).trans (H3.out.2.mono (by omega)), 0, some l, H1.out.1, (fun h => by cases h), fun l' hl' => ?_⟩
    cases hl'
    exact ⟨x3, cb, a, H2.out.1, rfl, H2.out.2.1.below H3.out.2, own_mono H3.out.1 (by omega), fun k hk hf => by
      have h1 := (World.ownsRow.lt H3.out.1 k hk).1
      have h2 := (H2.out.2.1.footLt hf).2
      omega⟩
end Go.Proofs.YtjmcokcdaddpcaaGreatDoor
