import Derived.Test.YtjmcokcdaddpcaaGreatDoorHsE
import Derived.Test.YtjmcokcdaddpcaaGreatDoorHsB
import Derived.Test.YtjmcokcdaddpcaaGreatDoorUa
import Derived.Test.YtjmcokcdaddpcaaGreatDoorUd
import Derived.Deep.AppendLies
import Derived.Lib.AppendStr
import Derived.Lib.SmallJoins
set_option linter.unusedVariables false
set_option linter.unusedSimpArgs false
namespace Go.Proofs.YtjmcokcdaddpcaaGreatDoor
open Go.RowKit
/-- A slice of bytes of the call's own. -/
def BOwn (B : Nat) (w : World) (v : Value) (bs : List UInt8) : Prop := w.ownsRow B 5 1 v bs.length (bs.map byV)
theorem BOwn.is {B : Nat} {w : World} {v : Value} {bs : List UInt8} (h : BOwn B w v bs) : BytesIs w v bs := by
  rcases h.2 with ⟨h1, h0⟩ | ⟨g, cap, cur, h1, hB, hb, h2, h3, h4, h5⟩
  · exact .inl ⟨h1, List.eq_nil_of_length_eq_zero h0⟩
  · refine .inr ⟨⟨g, 0, none⟩, cap, h1, h2, h3, fun i c hi => ?_⟩
    have := World.ownsRow.cells h (g := g) (by rw [h1]; rfl) i (byV c) (by rw [List.getElem?_map, hi]; rfl)
    exact this
theorem BOwn.len {B : Nat} {w : World} {a : Option Addr} {n c : Nat} {bs : List UInt8} (h : BOwn B w (.slice a n c) bs) : n = bs.length := by
  obtain ⟨_, _, e⟩ := owned_shape h
  injection e
theorem BOwn.block {B : Nat} {w w' : World} {v : Value} {bs : List UInt8} (h : BOwn B w v bs) (hb : ∀ k, k < w.heap.size → v.ownBlock = some k → w'.heap[k]? = w.heap[k]?) : BOwn B w' v bs := ownsRow_of_block h hb
theorem BOwn.below {B : Nat} {w w' : World} {v : Value} {bs : List UInt8} (h : BOwn B w v bs) (hb : Below w.heap.size w w') : BOwn B w' v bs := h.block fun k hk _ => hb.block k hk
/-- From w to w' the slice has become v'. -/
structure BStep (B : Nat) (w : World) (w' : World) (v' : Value) (bs' : List UInt8) : Prop where
  own : BOwn B w' v' bs'
  bel : Below B w w'
theorem BStep.trans {B : Nat} {w w1 w2 : World} {v1 v2 : Value} {b1 b2 : List UInt8} (h : BStep B w w1 v1 b1) (h' : BStep B w1 w2 v2 b2) : BStep B w w2 v2 b2 := ⟨h'.own, h.bel.trans h'.bel⟩
theorem byV_byte (m : Nat) : byV (Dsr.byte m) = .int .u8 ((m : Int) % 256) := by
  show Value.int .u8 ((UInt8.ofNat m).toNat : Int) = _
  rw [UInt8.toNat_ofNat']
  congr 1
theorem four_cells (n : Nat) (hn : n < 4294967296) : (Dsr.four n).map byV = [.int .u8 ((n : Int) / 16777216), .int .u8 ((n : Int) / 65536 % 256), .int .u8 ((n : Int) / 256 % 256), .int .u8 ((n : Int) % 256)] := by
  have h1 : ((n / 16777216 : Nat) : Int) % 256 = (n : Int) / 16777216 := by omega
  have h2 : ((n / 65536 : Nat) : Int) = (n : Int) / 65536 := by omega
  have h3 : ((n / 256 : Nat) : Int) = (n : Int) / 256 := by omega
  simp only [Dsr.four, List.map_cons, List.map_nil, byV_byte, h1, h2, h3]
theorem one_int {vs : List Value} (h : ∀ v ∈ vs, ∃ k n, v = .int k n) : ∀ v ∈ vs, v.oneCell' = true := fun v hv => by
  obtain ⟨k, n, rfl⟩ := h v hv
  rfl
theorem news_blk {w : World} {g : Nat} {vs : List Value} {T : TypeId} (h : w.heap[g]? = some (.cells vs.toArray T (0, 0))) : ∀ j u, vs[j]? = some u → w.cell? ((⟨g, 0, none⟩ : Addr).add j) = some u := fun j u hu => World.news_of_block h j u (by simpa using hu)
theorem BStep.of {B : Nat} {w w' : World} {v : Value} {o : Obj} {bs xs : List UInt8} {g cap m : Nat} {news : List Value} (h : BOwn B w v bs) (hB : B ≤ w.heap.size) (hnews : news = xs.map byV) (hm : m = xs.length) (hown : w'.ownsRow B 5 1 (.slice (some ⟨g, 0, none⟩) (bs.length + m) cap) (bs.length + m) (bs.map byV ++ news))
    (hg : (w.alloc o).grownBy w' v.ownBlock) : BStep B w w' (.slice (some ⟨g, 0, none⟩) (bs.length + m) cap) (bs ++ xs) := by
  subst hnews hm
  refine ⟨?_, ((Below.refl _ _).alloc hB o).grown hg (by simp; omega) (fun k hk => (World.ownsRow.lt h k hk).1)⟩
  show World.ownsRow _ _ _ _ _ (bs ++ xs).length ((bs ++ xs).map byV)
  rw [List.length_append, List.map_append]
  exact hown
/-- A text is laid behind. -/
theorem BStep.text {B : Nat} {w w' : World} {v v' : Value} {bs xs : List UInt8} (h : BOwn B w v bs) (hB : B ≤ w.heap.size) (hown : w'.ownsRow B 5 1 v' (bs.length + (⟨xs.toArray⟩ : ByteArray).size) (bs.map byV ++ Lib.strCells ⟨xs.toArray⟩))
    (hg : w.grownBy w' v.ownBlock) : BStep B w w' v' (bs ++ xs) := by
  refine ⟨?_, (Below.refl _ _).grown hg hB (fun k hk => (World.ownsRow.lt h k hk).1)⟩
  show World.ownsRow _ _ _ _ _ (bs ++ xs).length ((bs ++ xs).map byV)
  rw [List.length_append, List.map_append]
  have e0 : Lib.strCells ⟨xs.toArray⟩ = xs.map byV := by simp [Lib.strCells]
  rw [e0] at hown
  have e : (⟨xs.toArray⟩ : ByteArray).size = xs.length := by simp [ByteArray.size]
  rw [e] at hown
  exact hown
set_option maxRecDepth 100000 in
set_option maxHeartbeats 1600000 in
theorem recNumber_any {B : Nat} {w : World} {v : Value} {bs : List UInt8} (h : BOwn B w v bs) (hl : bs.length ≤ 100000) (hB : B ≤ w.heap.size) (n : Nat) (hn : n < 4294967296) :
    Calls Tryz.prog 88 #[v, .int .u32 n] w fun x w' => ∃ a m c, x = .returned (.slice a m c) ∧ BStep B w w' (.slice a m c) (bs ++ Dsr.four n) := by
  obtain ⟨va, vc, rfl⟩ := owned_shape h
  have H : Hid (BOwn B w (.slice va bs.length vc) bs) := h
  clear h
  obtain ⟨i0, hi, hz0, hz1, hz2⟩ := info_parts info_u8
  have hc := four_cells n hn
  go_enter Tryz.func88, Tryz.ntmps88
  go_wp2_with (at_builtin; refine wpList_append_lies _ rfl (.tmp 5) (.tmp 17) 27 rfl B 5 i0 _ 1 1 Tryz.underlying27 hi hz0 hz1 hz2 rfl (by decide) (.slice va bs.length vc) bs.length _ (by simp [Act.eval, Act.put]) (World.ownsRow.alloc H.out _) ⟨w.heap.size, 0, none⟩ 4 4 [.int .u8 ((n : Int) / 16777216), .int .u8 ((n : Int) / 65536 % 256), .int .u8 ((n : Int) / 256 % 256), .int .u8 ((n : Int) % 256)] (by simp [Act.eval, Act.put]) rfl (by exact news_blk (heap_alloc_new _ _)) (one_int (by simp)) (by decide) (by unfold maxLen; omega) (by omega) (by simp; omega) _ rfl ?_; intro g cap w5 hown hgrow hat hlt5)
  have HS : Hid (BStep B w w5 (.slice (some ⟨g, 0, none⟩) (bs.length + 4) cap) (bs ++ Dsr.four n)) := BStep.of H.out hB hc.symm rfl hown hgrow
  clear hown hgrow hat hc
  go_wp2_with fail
  go_ret
  exact ⟨_, _, _, rfl, HS.out⟩
theorem one_step {B : Nat} {w w' : World} {v : Value} {o : Obj} {bs : List UInt8} {x : UInt8} {g cap : Nat} {news : List Value} (h : BOwn B w v bs) (hB : B ≤ w.heap.size) (hnews : news = [x].map byV) (hown : w'.ownsRow B 5 1 (.slice (some ⟨g, 0, none⟩) (bs.length + 1) cap) (bs.length + 1) (bs.map byV ++ news))
    (hg : (w.alloc o).grownBy w' v.ownBlock) : Hid (BStep B w w' (.slice (some ⟨g, 0, none⟩) (bs.length + 1) cap) (bs ++ [x])) ∧ Hid (w'.ownsRow B 5 1 (.slice (some ⟨g, 0, none⟩) (bs.length + 1) cap) (bs.length + 1) ((bs ++ [x]).map byV)) ∧ B ≤ w'.heap.size := by
  have HS : BStep B w w' (.slice (some ⟨g, 0, none⟩) (bs.length + 1) cap) (bs ++ [x]) := BStep.of h hB hnews rfl hown hg
  refine ⟨HS, ?_, Nat.le_trans hB HS.bel.size⟩
  have := HS.own
  unfold BOwn at this
  have e1 : (bs ++ [x]).length = bs.length + 1 := by simp
  rw [e1] at this
  exact this
set_option maxRecDepth 100000 in
set_option maxHeartbeats 1600000 in
theorem recText_any {B : Nat} {w : World} {v : Value} {bs : List UInt8} (h : BOwn B w v bs) (hl : bs.length ≤ 100000) (hB : B ≤ w.heap.size) (t : List UInt8) (ht : t.length ≤ 255) :
    Calls Tryz.prog 89 #[v, strV t] w fun x w' => ∃ a m c, x = .returned (.slice a m c) ∧ BStep B w w' (.slice a m c) (bs ++ [Dsr.byte t.length] ++ t) := by
  obtain ⟨va, vc, rfl⟩ := owned_shape h
  have H : Hid (BOwn B w (.slice va bs.length vc) bs) := h
  clear h
  obtain ⟨i0, hi, hz0, hz1, hz2⟩ := info_parts info_u8
  have hc : Hid ([Value.int .u8 (t.length : Int)] = [Dsr.byte t.length].map byV) := by
    show _ = _
    simp only [List.map_cons, List.map_nil, byV_byte]
    congr 2
    omega
  have hzt : (t.length : Int) ≤ 255 := by omega
  go_enter Tryz.func89, Tryz.ntmps89
  go_wp2_with (first
    | (at_builtin; refine wpList_append_lies _ rfl (.tmp 5) (.tmp 9) 27 rfl B 5 i0 _ 1 1 Tryz.underlying27 hi hz0 hz1 hz2 rfl (by decide) (.slice va bs.length vc) bs.length _ (by simp [Act.eval, Act.put]) (World.ownsRow.alloc H.out _) ⟨w.heap.size, 0, none⟩ 1 1 [.int .u8 (t.length : Int)] (by simp [Act.eval, Act.put]) rfl (by exact news_blk (heap_alloc_new _ _)) (one_int (by simp)) (by decide) (by unfold maxLen; omega) (by omega) (by simp; omega) _ rfl ?_; intro g cap w5 hown hgrow hat hlt5; obtain ⟨HS, HO, hB5⟩ := one_step H.out hB hc.out hown hgrow; clear hown hgrow hat)
    | (at_builtin; refine Lib.wpList_append_own_string _ rfl (.tmp 10) (.tmp 11) 27 9 rfl B 5 i0 Tryz.underlying27 Tryz.underlying9 hi hz0 hz1 hz2 (.slice (some ⟨g, 0, none⟩) (bs.length + 1) cap) (bs.length + 1) _ (by simp [Act.eval, Act.put]) HO.out ⟨t.toArray⟩ (by simp [Act.eval, Act.put]) (by unfold maxLen; simp [ByteArray.size]; omega) (by simp [ByteArray.size]; omega) hB5 ?_; intro v6 w6 hown6 hgrow6 hnil6))
  have HS6 : Hid (BStep B w w6 v6 (bs ++ [Dsr.byte t.length] ++ t)) := HS.out.trans (BStep.text HS.out.own hB5 (by
    have e1 : (bs ++ [Dsr.byte t.length]).length = bs.length + 1 := by simp
    rw [e1]; exact hown6) hgrow6)
  obtain ⟨a6, c6, hv6⟩ := owned_shape HS6.out.own
  subst hv6
  clear hown6 hgrow6 hnil6
  go_wp2_with fail
  go_ret
  exact ⟨_, _, _, rfl, HS6.out⟩
end Go.Proofs.YtjmcokcdaddpcaaGreatDoor
set_option linter.unusedVariables false
set_option linter.unusedSimpArgs false
namespace Go.Proofs.YtjmcokcdaddpcaaGreatDoor
open Go.RowKit
theorem hashR_eq (bs : List UInt8) : hashR bs = Dsr.hash bs := rfl
abbrev endV (n l h : Nat) : Value := .agg #[.int .u32 n, .int .i64 l, .int .u32 h]
/-- A full slice of bytes, whatever block it lies in: append makes a new row. -/
theorem run_append_full (w : World) (base g n : Nat) (olds : List UInt8) (hn : olds.length = n) (holds : ∀ j c, olds[j]? = some c → w.cell? ⟨g, j, none⟩ = some (byV c)) (ad : Addr) (m c : Nat) (news : List UInt8) (hm : news.length = m) (hm0 : 0 < m) (hnews : ∀ j u, (news.map byV)[j]? = some u → w.cell? (ad.add j) = some u)
    (hl : n + m ≤ 100000) (hbase : base ≤ w.heap.size) (ty : TypeId) :
    ∃ cap w', (Builtin.append_ #[27, 27] ty #[.slice (some ⟨g, 0, none⟩) n n, .slice (some ad) m c]).run Tryz.prog w = .ok (.slice (some ⟨w.heap.size, 0, none⟩) (n + m) cap) w' ∧ BOwn base w' (.slice (some ⟨w.heap.size, 0, none⟩) (n + m) cap) (olds ++ news) ∧ Below base w w' := by
  obtain ⟨i0, hi, hz0, hz1, hz2⟩ := info_parts info_u8
  have hr := run_append_grow (P := Tryz.prog) w 27 ty 5 i0 (.int .u8 0) Tryz.underlying27 hi hz0 ⟨g, 0, none⟩ n n (olds.map byV) (by rw [hz1]; simp [hn]) (fun j v hv => by
    rw [List.getElem?_map, Option.map_eq_some_iff] at hv
    obtain ⟨x, hx, rfl⟩ := hv
    simpa [Addr.add_lit] using holds j x hx) ad m c (news.map byV) (by rw [hz1]; simp [hm]) hnews (by omega) (by omega) (by rw [hz2]; exact growslice_fits (by omega) (by omega))
  have hge := grownCap_ge w (n + m) n 5
  have hcm : grownCap w (n + m) n 5 ≤ maxLen := grownCap_le_maxLen w (n + m) n 5 (by unfold maxLen; omega)
  refine ⟨_, _, hr, ⟨?_, .inr ⟨w.heap.size, _, _, ?_, hbase, heap_alloc_new w.drew _, ?_, hcm, ?_, ?_⟩⟩, ?_⟩
  · simp
  · simp [hn, hm]
  · simp [hn, hm]; exact hge
  · have hz : (Value.int IntKind.u8 0).cells.size = 1 := rfl
    simp only [Array.size_append, List.size_toArray, size_zeroCells, hz, List.length_map, hn, hm]
    omega
  · simp only [Array.toList_append, List.map_append, List.append_assoc]
    rw [← List.append_assoc]
    have e : (olds ++ news).length * 1 = (olds.map byV ++ news.map byV).length := by simp
    rw [e]
    exact List.take_left
  · exact (Below.drew (Below.refl _ _)).alloc hbase _
theorem wpList_append_full {ops : Array Oper} {rest : List Oper} {o : Oper} {a : Act} {w : World} {Q : Exit → Act → World → Prop} (hgd : o.guard = none) (s x : Operand)
    (ho : o.op = .call { callee := .builtin .append, args := #[s, x], argTypes := #[27, 27] })
    (base g n : Nat) (olds : List UInt8) (hs : a.eval s = .slice (some ⟨g, 0, none⟩) n n) (hn : olds.length = n) (holds : ∀ j c, olds[j]? = some c → w.cell? ⟨g, j, none⟩ = some (byV c)) (ad : Addr) (m c : Nat) (news : List UInt8) (hx : a.eval x = .slice (some ad) m c) (hm : news.length = m) (hm0 : 0 < m) (hnews : ∀ j u, (news.map byV)[j]? = some u → w.cell? (ad.add j) = some u)
    (hl : n + m ≤ 100000) (hbase : base ≤ w.heap.size)
    (h : ∀ cap w', BOwn base w' (.slice (some ⟨w.heap.size, 0, none⟩) (n + m) cap) (olds ++ news) → Below base w w' → wpList Tryz.prog ops Q rest (a.put o.dst (.slice (some ⟨w.heap.size, 0, none⟩) (n + m) cap)) w') : wpList Tryz.prog ops Q (o :: rest) a w := by
  refine wpList_plain hgd fun K hK => ?_
  obtain ⟨cap, w', hr, h2, h3⟩ := run_append_full w base g n olds hn holds ad m c news hm hm0 hnews hl hbase o.type
  unfold Oper.wp execOp
  simp only [ho, resolve, invoke, builtin, Sem.run_bind, Sem.run_pure, Result.andThen_ok, List.map_toArray, List.map_cons, List.map_nil, hs, hx, hr]
  exact hK _ _ (h cap w' h2 h3)
set_option maxRecDepth 100000 in
set_option maxHeartbeats 1600000 in
theorem recSeal_any {B : Nat} {w : World} {v : Value} {bs : List UInt8} (h : BOwn B w v bs) (hl : bs.length ≤ 90000) (hB : B ≤ w.heap.size) :
    Calls Tryz.prog 84 #[v] w fun x w' => ∃ a m c, x = .returned (.tuple #[.slice a m c, .int .u32 (Dsr.hash bs : Nat)]) ∧ BStep B w w' (.slice a m c) (Dsr.sealed bs) := by
  obtain ⟨va, vc, rfl⟩ := owned_shape h
  have H : Hid (BOwn B w (.slice va bs.length vc) bs) := h
  clear h
  go_enter Tryz.func84, Tryz.ntmps84
  go_wp2_with fail
  refine (recHash_any bs _ w H.out.is (by omega)).mono ?_
  rintro x w1 ⟨rfl, b1⟩
  rw [hashR_eq]
  have H1 : Hid (BOwn B w1 (.slice va bs.length vc) bs ∧ Below B w w1 ∧ B ≤ w1.heap.size) := ⟨H.out.below b1, b1.mono hB, Nat.le_trans hB b1.size⟩
  clear b1
  have HHh : Hid (Dsr.hash bs < 4294967296) := Dsr.hash_lt bs
  go_wp2_with fail
  refine (recNumber_any H1.out.1 (by omega) H1.out.2.2 (Dsr.hash bs) HHh.out).mono ?_
  rintro x w2 ⟨a, m, c, rfl, hs⟩
  have H2 : Hid (BStep B w w2 (.slice a m c) (Dsr.sealed bs)) := ⟨hs.own, H1.out.2.1.trans hs.bel⟩
  clear hs
  go_wp2_with fail
  go_ret2
  exact ⟨a, m, c, rfl, H2.out⟩
theorem cells3L {w : World} {b : Nat} {c0 c1 c2 : Value} {T : TypeId} (h : w.heap[b]? = some (.cells #[c0, c1, c2] T (0, 0))) :
    w.cell? ⟨b, 0, none⟩ = some c0 ∧ w.cell? ⟨b, 1, none⟩ = some c1 ∧ w.cell? ⟨b, 2, none⟩ = some c2 ∧ ∀ o, w.frozen? ⟨b, o, none⟩ = false := by
  refine ⟨?_, ?_, ?_, fun o => ?_⟩ <;> simp [World.cell?, World.frozen?, h]
theorem two_cells {w : World} (g : Nat) {o1 o2 : Obj} (hg : g = (w.alloc o1).heap.size) : ∀ j c, [(68 : UInt8), 49][j]? = some c → (((w.alloc o1).alloc (.cells #[.int .u8 68, .int .u8 49] 5 (2, 3))).alloc o2).cell? ⟨g, j, none⟩ = some (byV c) := fun j c hj => by
  subst hg
  have hb : (((w.alloc o1).alloc (.cells #[.int .u8 68, .int .u8 49] 5 (2, 3))).alloc o2).heap[(w.alloc o1).heap.size]? = some (.cells #[.int .u8 68, .int .u8 49] 5 (2, 3)) := (Below.heap_alloc _ _ _ (by simp)).trans (heap_alloc_new _ _)
  rw [cell_of_row _ _ _ _ _ _ hb]
  rcases j with _ | _ | j
  · simp at hj; subst hj; rfl
  · simp at hj; subst hj; rfl
  · simp at hj
theorem news_blkN {w : World} {g : Nat} {vs : List Value} {T : TypeId} (hg : g = w.heap.size) : ∀ j u, vs[j]? = some u → (w.alloc (.cells vs.toArray T)).cell? ((⟨g, 0, none⟩ : Addr).add j) = some u := fun j u hu => by
  subst hg
  exact news_blk (heap_alloc_new _ _) j u hu
theorem beg_step (w : World) (o1 o2 o3 : Obj) {w5 : World} {cap : Nat} {bs : List UInt8} (h4 : bs.length = 4) (h : BOwn (w.heap.size + 1) w5 (.slice (some ⟨(((w.alloc o1).alloc o2).alloc o3).heap.size, 0, none⟩) (2 + 2) cap) bs) (hb : Below (w.heap.size + 1) (((w.alloc o1).alloc o2).alloc o3) w5) :
    Hid (BStep (w.heap.size + 1) (w.alloc o1) w5 (.slice (some ⟨w.heap.size + 1 + 1 + 1, 0, none⟩) 4 cap) bs) ∧ Hid (w5.ownsRow (w.heap.size + 1) 5 1 (.slice (some ⟨w.heap.size + 1 + 1 + 1, 0, none⟩) 4 cap) 4 (bs.map byV)) ∧ w.heap.size + 1 ≤ w5.heap.size := by
  have e : (((w.alloc o1).alloc o2).alloc o3).heap.size = w.heap.size + 1 + 1 + 1 := by simp
  rw [e] at h
  have hbl : Below (w.heap.size + 1) (w.alloc o1) w5 := (((Below.refl _ _).alloc (by simp) o2).alloc (by simp) o3).trans hb
  refine ⟨⟨h, hbl⟩, ?_, by have := hbl.size; simpa using this⟩
  have h' := h
  unfold BOwn at h'
  rw [h4] at h'
  exact h'
theorem text_step {B : Nat} {w w5 w6 : World} {v v6 : Value} {bs t : List UInt8} {n : Nat} (HS : Hid (BStep B w w5 v bs)) (hB : B ≤ w5.heap.size) (hn : n = bs.length) (hown : w6.ownsRow B 5 1 v6 (n + (⟨t.toArray⟩ : ByteArray).size) (bs.map byV ++ Lib.strCells ⟨t.toArray⟩)) (hg : w5.grownBy w6 v.ownBlock) :
    Hid (BStep B w w6 v6 (bs ++ t)) ∧ ∃ a n c, v6 = .slice a n c := by
  subst hn
  have h := HS.out.trans (BStep.text HS.out.own hB hown hg)
  obtain ⟨a, c, e⟩ := owned_shape h.own
  exact ⟨h, a, _, c, e⟩
set_option maxRecDepth 100000 in
set_option maxHeartbeats 1600000 in
theorem recBegin_any (w : World) (t : List UInt8) (ht : t.length ≤ 400) :
    Calls Tryz.prog 53 #[strV t] w fun x w' => ∃ a m c, x = .returned (.tuple #[.slice a m c, endV 0 m (Dsr.hash (Dsr.headOf t))]) ∧ BOwn w.heap.size w' (.slice a m c) (Dsr.sealed (Dsr.headOf t)) ∧ Below w.heap.size w w' := by
  obtain ⟨i0, hi, hz0, hz1, hz2⟩ := info_parts info_u8
  have hzt : (t.length : Int) ≤ 400 := by omega
  have hcv := Go.Joins.run_convert_bytes_const_at (P := Tryz.prog) (w.alloc (.cells #[.int .u32 0, .int .i64 0, .int .u32 0] 112)) 27 5 #[.int .u8 68, .int .u8 49] 2 2 (w.heap.size + 1) (by simp) Tryz.underlying27 Tryz.underlying5
  have hnw : Hid ([Dsr.byte (t.length / 256), Dsr.byte t.length].map byV = [.int .u8 ((t.length : Int) / 256), .int .u8 ((t.length : Int) % 256)]) := by
    show _ = _
    simp only [List.map_cons, List.map_nil, byV_byte]
    congr 2
    · omega
  go_enter Tryz.func53, Tryz.ntmps53
  go_wp2_with (first
    | (at_builtin; refine wpList_append_full rfl (.tmp 7) (.tmp 15) rfl (w.heap.size + 1) (w.heap.size + 1) 2 [68, 49] (by simp [Act.eval, Act.put]) rfl (two_cells (w.heap.size + 1) (by simp)) ⟨w.heap.size + 1 + 1, 0, none⟩ 2 2 [Dsr.byte (t.length / 256), Dsr.byte t.length] (by simp [Act.eval, Act.put]) rfl (by decide) (by rw [hnw.out]; exact news_blkN (by simp)) (by decide) (by simp) ?_; intro cap w5 hown hbel; obtain ⟨HS, HO, hB5⟩ := beg_step w _ _ _ rfl hown hbel; clear hown hbel)
    | (at_builtin; refine Lib.wpList_append_own_string _ rfl (.tmp 18) (.tmp 19) 27 9 rfl (w.heap.size + 1) 5 i0 Tryz.underlying27 Tryz.underlying9 hi hz0 hz1 hz2 (.slice (some ⟨w.heap.size + 1 + 1 + 1, 0, none⟩) 4 cap) 4 _ (by simp [Act.eval, Act.put]) HO.out ⟨t.toArray⟩ (by simp [Act.eval, Act.put]) (by unfold maxLen; simp [ByteArray.size]; omega) (by simp [ByteArray.size]; omega) hB5 ?_; intro v6 w6 hown6 hgrow6 hnil6; obtain ⟨HS6, a6, n6, c6, hv6⟩ := text_step HS hB5 rfl hown6 hgrow6; subst hv6; clear hown6 hgrow6 hnil6))
  refine (recSeal_any HS6.out.own (by simp; omega) (by have := HS6.out.bel.size; simpa using this)).mono ?_
  rintro x w7 ⟨a7, m7, c7, rfl, hs7⟩
  have e7 : [68, 49] ++ [Dsr.byte (t.length / 256), Dsr.byte t.length] ++ t = Dsr.headOf t := rfl
  rw [e7] at hs7 ⊢
  have hbl7 := HS6.out.bel.trans hs7.bel
  have p7 : w7.heap[w.heap.size]? = some (.cells #[.int .u32 0, .int .i64 0, .int .u32 0] 112 (0, 0)) := (hbl7.block _ (by omega)).trans (heap_alloc_new _ _)
  have hlt7 : w.heap.size < w7.heap.size := (Array.getElem?_eq_some_iff.1 p7).1
  obtain ⟨m0, m1, m2, mf⟩ := cells3L p7
  have H7 : Hid (BOwn (w.heap.size + 1) w7 (.slice a7 m7 c7) (Dsr.sealed (Dsr.headOf t)) ∧ Below w.heap.size w w7) := ⟨hs7.own, ((Below.refl _ _).alloc (Nat.le_refl _) _).trans (hbl7.mono (by omega))⟩
  clear hs7 hbl7 p7 e7 HS6 HS HO
  go_wp2_with fail
  refine bodyPost_ret (v := .tuple #[.slice a7 m7 c7, endV 0 m7 (Dsr.hash (Dsr.headOf t))]) (by simp [results, Tryz.results53, go_sem, m0, m1, m2, mf]) rfl ⟨_, _, _, rfl, ?_, ?_⟩
  · exact Go.Joins.ownsRow_le (H7.out.1.block (fun k hk ho => by
      have := (World.ownsRow.lt H7.out.1 k ho).1
      repeat rw [heap_setCell_other _ _ _ _ (by show k ≠ w.heap.size; omega)])) (by omega)
  · repeat (first | exact H7.out.2 | refine Below.setCell ?_ (by simp) _ | refine Below.drew ?_)
end Go.Proofs.YtjmcokcdaddpcaaGreatDoor
set_option linter.unusedVariables false
set_option linter.unusedSimpArgs false
namespace Go.Proofs.YtjmcokcdaddpcaaGreatDoor
open Go.RowKit
set_option maxRecDepth 100000 in
set_option maxHeartbeats 1600000 in
/-- A number behind a full slice. -/
theorem recNumber_full {B : Nat} {w : World} {g : Nat} {bs : List UInt8} {k : Nat} (hk : bs.length = k) (h : ∀ j c, bs[j]? = some c → w.cell? ⟨g, j, none⟩ = some (byV c)) (hg : g < w.heap.size) (hl : bs.length ≤ 1000) (hB : B ≤ w.heap.size) (n : Nat) (hn : n < 4294967296) :
    Calls Tryz.prog 88 #[.slice (some ⟨g, 0, none⟩) k k, .int .u32 n] w fun x w' => ∃ a m c, x = .returned (.slice a m c) ∧ BStep B w w' (.slice a m c) (bs ++ Dsr.four n) := by
  have HC : Hid (∀ o, ∀ j c, bs[j]? = some c → (w.alloc o).cell? ⟨g, j, none⟩ = some (byV c)) := fun o j c hj => by
    rw [(show Below w.heap.size w (w.alloc o) from (Below.refl _ _).alloc (Nat.le_refl _) _).cell (p := ⟨g, j, none⟩) hg]; exact h j c hj
  have hc : Hid ((Dsr.four n).map byV = [.int .u8 ((n : Int) / 16777216), .int .u8 ((n : Int) / 65536 % 256), .int .u8 ((n : Int) / 256 % 256), .int .u8 ((n : Int) % 256)]) := four_cells n hn
  clear h
  go_enter Tryz.func88, Tryz.ntmps88
  go_wp2_with (at_builtin; refine wpList_append_full rfl (.tmp 5) (.tmp 17) rfl B g k bs (by simp [Act.eval, Act.put]) hk (HC.out _) ⟨w.heap.size, 0, none⟩ 4 4 (Dsr.four n) (by simp [Act.eval, Act.put]) rfl (by decide) (by rw [hc.out]; exact news_blkN rfl) (by omega) (by simp; omega) ?_; intro cap w5 hown hbel)
  have HS : Hid (BStep B w w5 (.slice (some ⟨w.heap.size + 1, 0, none⟩) (k + 4) cap) (bs ++ Dsr.four n)) := ⟨by simpa using hown, ((Below.refl _ _).alloc hB _).trans hbel⟩
  clear hown hbel hc HC
  go_wp2_with fail
  go_ret
  exact ⟨_, _, _, rfl, HS.out⟩
/-- Next, under way: its receiver and its result's block are as they were laid. -/
structure Mid (w wk : World) (num len hsh : Nat) : Prop where
  p0 : wk.heap[w.heap.size]? = some (.cells #[.int .u32 num, .int .i64 len, .int .u32 hsh] 112 (0, 0))
  p1 : wk.heap[w.heap.size + 1]? = some (.cells #[.int .u32 0, .int .i64 0, .int .u32 0] 112 (0, 0))
  bel : Below w.heap.size w wk
  sz : w.heap.size + 2 ≤ wk.heap.size
theorem Mid.step {w wk wl : World} {num len hsh : Nat} (h : Mid w wk num len hsh) (hb : Below (w.heap.size + 2) wk wl) : Mid w wl num len hsh :=
  ⟨(hb.block _ (by omega)).trans h.p0, (hb.block _ (by omega)).trans h.p1, h.bel.trans (hb.mono (by omega)), Nat.le_trans h.sz hb.size⟩
theorem Mid.cells {w wk : World} {num len hsh : Nat} (h : Mid w wk num len hsh) : w.heap.size < wk.heap.size ∧ w.heap.size + 1 < wk.heap.size ∧
    (wk.cell? ⟨w.heap.size, 0, none⟩ = some (.int .u32 num) ∧ wk.cell? ⟨w.heap.size, 1, none⟩ = some (.int .i64 len) ∧ wk.cell? ⟨w.heap.size, 2, none⟩ = some (.int .u32 hsh) ∧ ∀ o, wk.frozen? ⟨w.heap.size, o, none⟩ = false) ∧
    (wk.cell? ⟨w.heap.size + 1, 0, none⟩ = some (.int .u32 0) ∧ wk.cell? ⟨w.heap.size + 1, 1, none⟩ = some (.int .i64 0) ∧ wk.cell? ⟨w.heap.size + 1, 2, none⟩ = some (.int .u32 0) ∧ ∀ o, wk.frozen? ⟨w.heap.size + 1, o, none⟩ = false) :=
  ⟨by have := h.sz; omega, by have := h.sz; omega, cells3L h.p0, cells3L h.p1⟩
theorem mid_begin (w : World) (num len hsh : Nat) (o : Obj) : Mid w (((w.alloc (.cells #[.int .u32 num, .int .i64 len, .int .u32 hsh] 112)).alloc (.cells #[.int .u32 0, .int .i64 0, .int .u32 0] 112)).alloc o) num len hsh := by
  refine ⟨?_, ?_, ?_, by simp⟩
  · exact (Below.heap_alloc _ _ _ (by simp; omega)).trans ((Below.heap_alloc _ _ _ (by simp)).trans (heap_alloc_new _ _))
  · exact (Below.heap_alloc _ _ _ (by simp)).trans (by have := heap_alloc_new (w.alloc (.cells #[.int .u32 num, .int .i64 len, .int .u32 hsh] 112)) (.cells #[.int .u32 0, .int .i64 0, .int .u32 0] 112); simpa using this)
  · exact (((Below.refl _ _).alloc (Nat.le_refl _) _).alloc (by simp) _).alloc (by simp; omega) _
theorem one_cell {w : World} {g : Nat} (hg : g = w.heap.size) : ∀ j c, [(82 : UInt8)][j]? = some c → (w.alloc (.cells #[.int .u8 82] 5 (1, 2))).cell? ⟨g, j, none⟩ = some (byV c) := fun j c hj => by
  subst hg
  rw [cell_of_row _ _ _ _ _ _ (heap_alloc_new w _)]
  rcases j with _ | j
  · simp at hj; subst hj; rfl
  · simp at hj
set_option maxRecDepth 100000 in
set_option maxHeartbeats 1600000 in
theorem recNext_any (w : World) (num len hsh : Nat) (role ev : List UInt8) (v : Nat) (hnum : num + 1 < 4294967296) (hlen : len ≤ 1000000) (hh : hsh < 4294967296) (hr : role.length ≤ 8) (he : ev.length ≤ 8) (hv : v ≤ 4) :
    Calls Tryz.prog 57 #[endV num len hsh, strV role, strV ev, .int .u8 v] w fun x w' => ∃ a m c, x = .returned (.tuple #[.slice a m c, endV (num + 1) (len + m) (Dsr.hash (Dsr.recOf (num + 1) hsh role ev v))]) ∧ BOwn w.heap.size w' (.slice a m c) (Dsr.sealed (Dsr.recOf (num + 1) hsh role ev v)) ∧ Below w.heap.size w w' := by
  obtain ⟨i0, hi, hz0, hz1, hz2⟩ := info_parts info_u8
  have hnI : (num : Int) + 1 < 4294967296 := by omega
  have hlI : (len : Int) ≤ 1000000 := by omega
  have hvI : (v : Int) ≤ 4 := by omega
  have hcv := Go.Joins.run_convert_bytes_const_at (P := Tryz.prog) ((w.alloc (.cells #[.int .u32 num, .int .i64 len, .int .u32 hsh] 112)).alloc (.cells #[.int .u32 0, .int .i64 0, .int .u32 0] 112)) 27 5 #[.int .u8 82] 1 1 (w.heap.size + 1 + 1) (by simp) Tryz.underlying27 Tryz.underlying5
  go_enter Tryz.func57, Tryz.ntmps57
  go_wp2_with fail
  refine (recNumber_full (B := w.heap.size + 2) (g := w.heap.size + 1 + 1) (bs := [82]) (k := 1) rfl ?hc (by simp) (by decide) (by simp) (num + 1) hnum).mono ?_
  case hc => exact one_cell (by simp)
  rintro x w1 ⟨a1, m1, c1, rfl, hs⟩
  have M1 : Mid w w1 num len hsh := (mid_begin w num len hsh _).step hs.bel
  have H1 : Hid (Mid w w1 num len hsh ∧ BOwn (w.heap.size + 2) w1 (.slice a1 m1 c1) ([82] ++ Dsr.four (num + 1))) := ⟨M1, hs.own⟩
  obtain ⟨hl0, hl1, ⟨x0, x1, x2, xf⟩, ⟨y0, y1, y2, yf⟩⟩ := M1.cells
  clear hs M1 hcv
  go_wp2_with fail
  refine (recNumber_any H1.out.2 (by simp [Dsr.four]) H1.out.1.sz hsh hh).mono ?_
  rintro x w2 ⟨a2, m2, c2, rfl, hs⟩
  have M2 : Mid w w2 num len hsh := H1.out.1.step hs.bel
  have H2 : Hid (Mid w w2 num len hsh ∧ BOwn (w.heap.size + 2) w2 (.slice a2 m2 c2) ([82] ++ Dsr.four (num + 1) ++ Dsr.four hsh)) := ⟨M2, hs.own⟩
  clear hl0 hl1 x0 x1 x2 xf y0 y1 y2 yf
  obtain ⟨hl0, hl1, ⟨x0, x1, x2, xf⟩, ⟨y0, y1, y2, yf⟩⟩ := M2.cells
  clear hs M2 H1
  go_wp2_with fail
  refine (recText_any H2.out.2 (by simp [Dsr.four]) H2.out.1.sz role (by omega)).mono ?_
  rintro x w3 ⟨a3, m3, c3, rfl, hs⟩
  have M3 : Mid w w3 num len hsh := H2.out.1.step hs.bel
  have H3 : Hid (Mid w w3 num len hsh ∧ BOwn (w.heap.size + 2) w3 (.slice a3 m3 c3) ([82] ++ Dsr.four (num + 1) ++ Dsr.four hsh ++ [Dsr.byte role.length] ++ role)) := ⟨M3, hs.own⟩
  clear hl0 hl1 x0 x1 x2 xf y0 y1 y2 yf
  obtain ⟨hl0, hl1, ⟨x0, x1, x2, xf⟩, ⟨y0, y1, y2, yf⟩⟩ := M3.cells
  clear hs M3 H2
  go_wp2_with fail
  refine (recText_any H3.out.2 (by simp [Dsr.four]; omega) H3.out.1.sz ev (by omega)).mono ?_
  rintro x w4 ⟨a4, m4, c4, rfl, hs⟩
  have M4 : Mid w w4 num len hsh := H3.out.1.step hs.bel
  have H4 : Hid (Mid w w4 num len hsh ∧ BOwn (w.heap.size + 2) w4 (.slice a4 m4 c4) ([82] ++ Dsr.four (num + 1) ++ Dsr.four hsh ++ [Dsr.byte role.length] ++ role ++ [Dsr.byte ev.length] ++ ev)) := ⟨M4, hs.own⟩
  clear hl0 hl1 x0 x1 x2 xf y0 y1 y2 yf
  obtain ⟨hl0, hl1, ⟨x0, x1, x2, xf⟩, ⟨y0, y1, y2, yf⟩⟩ := M4.cells
  have hm4 := hs.own.len
  clear hs M4 H3
  obtain ⟨bs4, hbs4⟩ : ∃ bs4, bs4 = [82] ++ Dsr.four (num + 1) ++ Dsr.four hsh ++ [Dsr.byte role.length] ++ role ++ [Dsr.byte ev.length] ++ ev := ⟨_, rfl⟩
  have hl4 : bs4.length ≤ 100 := by rw [hbs4]; simp [Dsr.four]; omega
  have HB4 : Hid (bs4 = [82] ++ Dsr.four (num + 1) ++ Dsr.four hsh ++ [Dsr.byte role.length] ++ role ++ [Dsr.byte ev.length] ++ ev) := hbs4
  rw [← hbs4] at H4 hm4
  subst hm4
  clear hbs4
  have hcb : Hid ([Value.int .u8 (v : Int)] = [Dsr.byte v].map byV) := by
    show _ = _
    simp only [List.map_cons, List.map_nil, byV_byte]
    congr 2
    omega
  go_wp2_with (at_builtin; refine wpList_append_lies _ rfl (.tmp 29) (.tmp 31) 27 rfl (w.heap.size + 2) 5 i0 _ 1 1 Tryz.underlying27 hi hz0 hz1 hz2 rfl (by decide) (.slice a4 bs4.length c4) bs4.length _ (by simp [Act.eval, Act.put]) (World.ownsRow.alloc H4.out.2 _) ⟨w4.heap.size, 0, none⟩ 1 1 [.int .u8 (v : Int)] (by simp [Act.eval, Act.put]) rfl (by exact news_blk (heap_alloc_new _ _)) (one_int (by simp)) (by decide) (by unfold maxLen; omega) (by omega) (by simp; omega) _ rfl ?_; intro g cap w5 hown hgrow hat hlt5; obtain ⟨HS, HO, hB5⟩ := one_step H4.out.2 H4.out.1.sz hcb.out hown hgrow; clear hown hgrow hat)
  refine (recSeal_any HS.out.own (by simp; omega) hB5).mono ?_
  rintro x w6 ⟨a6, m6, c6, rfl, hs⟩
  have M6 : Mid w w6 num len hsh := (H4.out.1.step HS.out.bel).step hs.bel
  have e6 : bs4 ++ [Dsr.byte v] = Dsr.recOf (num + 1) hsh role ev v := by rw [HB4.out]; rfl
  have hm6 := hs.own.len
  rw [Dsr.sealed_len] at hm6
  have hm6' : (m6 : Int) ≤ 1000 := by rw [hm6]; simp; omega
  rw [e6] at hs ⊢
  have H6 : Hid (Mid w w6 num len hsh ∧ BOwn (w.heap.size + 2) w6 (.slice a6 m6 c6) (Dsr.sealed (Dsr.recOf (num + 1) hsh role ev v))) := ⟨M6, hs.own⟩
  clear hl0 hl1 x0 x1 x2 xf y0 y1 y2 yf
  obtain ⟨hl0, hl1, ⟨x0, x1, x2, xf⟩, ⟨y0, y1, y2, yf⟩⟩ := M6.cells
  clear hs M6 H4 HS HO e6 hm6 hcb HB4
  go_wp2_with fail
  go_region
  all_goals
    go_wp2_with fail
    refine bodyPost_ret (v := .tuple #[.slice a6 m6 c6, endV (num + 1) (len + m6) (Dsr.hash (Dsr.recOf (num + 1) hsh role ev v))]) (by simp [results, Tryz.results57, go_sem, y0, y1, y2, yf]) rfl ⟨_, _, _, rfl, ?_, ?_⟩
    · exact Go.Joins.ownsRow_le (BOwn.block (w := w6) H6.out.2 (fun k hk ho => by
        have := (World.ownsRow.lt H6.out.2 k ho).1
        show (((w6.setCell _ _).setCell _ _).setCell _ _).heap[k]? = _
        repeat rw [heap_setCell_other _ _ _ _ (by show k ≠ w.heap.size + 1; omega)])) (by omega)
    · repeat (first | exact H6.out.1.bel | refine Below.setCell ?_ (by simp) _ | refine Below.drew ?_)
end Go.Proofs.YtjmcokcdaddpcaaGreatDoor
