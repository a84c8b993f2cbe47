import Derived.Test.YtjmcokcdaddpcaaGreatDoorUj
import Derived.Test.YtjmcokcdaddpcaaGreatDoorUe
import Derived.Test.YtjmcokcdaddpcaaGreatDoorShelf
import Derived.Lib.ItoaLen
set_option linter.unusedVariables false
set_option linter.unusedSimpArgs false
namespace Go.Proofs.YtjmcokcdaddpcaaGreatDoor
open Go.RowKit
/-- What the caller writes in the k-th list of texts. -/
def markL (k : Nat) : List UInt8 := [109, 97, 114, 107] ++ Lib.itoa k
def stV (k i : Nat) : Value := strV (markL k)
def sts (k n : Nat) : List Value := (List.range n).map (stV k)
theorem sts_len (k n : Nat) : (sts k n).length = n := by simp [sts]
theorem sts_at (k n i : Nat) (h : i < n) : (sts k n)[i]? = some (stV k i) := by simp [sts, h]
theorem sts_snoc (k n : Nat) : sts k (n + 1) = sts k n ++ [stV k n] := by simp [sts, List.range_succ]
/-- It reads as its owner wrote it. -/
def RdS (w : World) (e : BE) : Prop := (e.v = .slice none 0 0 ∧ e.n = 0) ∨ ∃ g c, e.v = .slice (some ⟨g, 0, none⟩) e.n c ∧ e.n ≤ c ∧ c ≤ maxLen ∧ (∃ cur, w.heap[g]? = some (.cells cur 9 (0, 0))) ∧ ∀ i, i < e.n → w.cell? ⟨g, i, none⟩ = some (stV e.k i)
theorem RdS.same {w w' : World} {e : BE} (h : RdS w e) (hs : w.heap.size ≤ w'.heap.size) (hk : ∀ k, k < w.heap.size → e.v.ownBlock = some k → w'.heap[k]? = w.heap[k]?) : RdS w' e := by
  rcases h with h | ⟨g, c, h1, h2, h3, h4, h5⟩
  · exact .inl h
  · obtain ⟨cur, h4⟩ := h4
    have hk' := hk g (Array.getElem?_eq_some_iff.1 h4).1 (by rw [h1]; rfl)
    refine .inr ⟨g, c, h1, h2, h3, ⟨cur, hk'.trans h4⟩, fun i hi => ?_⟩
    rw [World.cell?_of_block (a := ⟨g, i, none⟩) hk']
    exact h5 i hi
theorem RdS.of {w : World} {B k n : Nat} {v : Value} (h : w.ownsRow B 9 1 v n (sts k n)) : RdS w ⟨v, k, n⟩ := by
  rcases h.2 with ⟨h1, h2⟩ | ⟨g, c, cur, h1, h2, h3, h4, h5, h6, h7⟩
  · exact .inl ⟨h1, h2⟩
  · exact .inr ⟨g, c, h1, h4, h5, ⟨cur, h3⟩, fun i hi => by rw [h1] at h; exact own_at h (sts_at k n i hi)⟩
/-- Behind an append to a list of the number k the lists of that number in its block, no longer, read as before. -/
theorem RdS.app {w w5 : World} {B k n m g cap : Nat} {v : Value} {e : BE} (h : RdS w e) (hown : w5.ownsRow B 9 1 (.slice (some ⟨g, 0, none⟩) (n + m) cap) (n + m) (sts k (n + m))) (hg : w.grownBy w5 v.ownBlock) (hk : v = .slice (some ⟨g, 0, none⟩) n cap ∨ ∀ x, x < w.heap.size → w5.heap[x]? = w.heap[x]?) (he : e.v.ownBlock = v.ownBlock → v.ownBlock ≠ none → e.k = k ∧ e.n ≤ n + m) : RdS w5 e := by
  rcases hk with hk | hk
  · rcases h with h | ⟨g2, c2, h1, h2, h3, h4, h5⟩
    · exact .inl h
    · by_cases hgg : g2 = g
      · obtain ⟨e1, e2⟩ := he (by rw [h1, hk, hgg]; rfl) (by rw [hk]; simp [Value.ownBlock])
        refine .inr ⟨g2, c2, h1, h2, h3, by rw [hgg]; exact own_type hown rfl, fun i hi => ?_⟩
        rw [hgg, e1]
        exact own_at hown (sts_at k (n + m) i (by omega))
      · obtain ⟨cur, h4⟩ := h4
        have hb := hg.block g2 (Array.getElem?_eq_some_iff.1 h4).1 (by rw [hk]; simp [Value.ownBlock, hgg])
        refine .inr ⟨g2, c2, h1, h2, h3, ⟨cur, hb.trans h4⟩, fun i hi => ?_⟩
        rw [World.cell?_of_block (a := ⟨g2, i, none⟩) hb]
        exact h5 i hi
  · exact h.same hg.size (fun x hx _ => hk x hx)
theorem RdS.type {w : World} {e : BE} (h : RdS w e) {x : Nat} (hx : e.v.ownBlock = some x) : ∃ cur, w.heap[x]? = some (.cells cur 9 (0, 0)) := by
  rcases h with ⟨h1, _⟩ | ⟨g, c, h1, _, _, h4, _⟩
  · rw [h1] at hx; cases hx
  · rw [h1] at hx
    cases hx
    exact h4
/-- .. and the list itself is its owner's still. -/
theorem row_appS {w w5 : World} {B k n m g cap : Nat} {v : Value} (h : w.ownsRow B 9 1 v n (sts k n)) (hown : w5.ownsRow B 9 1 (.slice (some ⟨g, 0, none⟩) (n + m) cap) (n + m) (sts k (n + m))) (hk : v = .slice (some ⟨g, 0, none⟩) n cap ∨ ∀ x, x < w.heap.size → w5.heap[x]? = w.heap[x]?) : w5.ownsRow B 9 1 v n (sts k n) := by
  rcases hk with hk | hk
  · rcases hown.2 with ⟨h1, _⟩ | ⟨g2, c2, cur, h1, h2, h3, h4, h5, h6, h7⟩
    · cases h1
    · injection h1 with h1 _ h9
      injection h1 with h1
      injection h1 with h1
      subst h1 h9
      refine ⟨h.1, .inr ⟨g, cap, cur, hk, h2, h3, by omega, h5, h6, ?_⟩⟩
      have : (cur.toList.take ((n + m) * 1)).take (n * 1) = (sts k (n + m)).take (n * 1) := by rw [h7]
      rw [List.take_take, Nat.min_eq_left (by omega)] at this
      rw [this]
      have e : sts k (n + m) = sts k n ++ ((List.range m).map fun i => stV k (n + i)) := by
        simp [sts, List.range_add, List.map_append]
      rw [e, List.take_append_of_le_length (by rw [sts_len]; omega), List.take_of_length_le (by rw [sts_len]; omega)]
  · exact ownsRow_of_block h (fun x hx _ => hk x hx)
theorem mid_setS {k m : Nat} {bs : List (List UInt8)} {x : List UInt8} (h : bs[m]? = some x) : (sts k m ++ (bs.drop m).map strV).set m (stV k m) = sts k (m + 1) ++ (bs.drop (m + 1)).map strV := by
  rw [drop_at h, List.map_cons, List.set_append_right _ _ (by rw [sts_len]; omega), sts_len, Nat.sub_self, List.set_cons_zero, sts_snoc, List.append_assoc]
  rfl
theorem mid_atS {k m : Nat} {bs : List (List UInt8)} {x : List UInt8} (h : bs[m]? = some x) : (sts k m ++ (bs.drop m).map strV)[m]? = some (strV x) := by
  rw [List.getElem?_append_right (by rw [sts_len]; omega), sts_len, Nat.sub_self, drop_at h]
  rfl
theorem sts_2 (k n : Nat) : sts k (n + 2) = sts k n ++ [stV k n, stV k (n + 1)] := by rw [sts_snoc, sts_snoc, List.append_assoc]; rfl
theorem sts_3 (k n : Nat) : sts k (n + 3) = sts k n ++ [stV k n, stV k (n + 1), stV k (n + 2)] := by rw [sts_snoc, sts_snoc, sts_snoc, List.append_assoc, List.append_assoc]; rfl
structure BMidS (B k n : Nat) (w0 wk : World) (vb : Value) (es : List BE) : Prop where
  row : wk.ownsRow B 9 1 vb n (sts k n)
  rd : ∀ e ∈ es, RdS wk e
  kp : Kp (fun x => vb.ownBlock = some x) w0 wk
  le : ∀ e ∈ es, e.k = k ∧ e.n ≤ n + 3
  bl : ∀ e ∈ es, ∀ x, e.v.ownBlock = some x → vb.ownBlock = some x ∨ w0.heap.size ≤ x
theorem BMidS.app {B k n m g cap H : Nat} {w0 wk w5 : World} {vb : Value} {es : List BE} {o : Obj} {news : List Value} (h : BMidS B k n w0 wk vb es) (hnews : sts k n ++ news = sts k (n + m)) (hown : w5.ownsRow B 9 1 (.slice (some ⟨g, 0, none⟩) (n + m) cap) (n + m) (sts k n ++ news)) (hg : (wk.alloc o).grownBy w5 vb.ownBlock) (hk : vb = .slice (some ⟨g, 0, none⟩) n cap ∨ (g = H ∧ ∀ x, x < (wk.alloc o).heap.size → w5.heap[x]? = (wk.alloc o).heap[x]?)) (hH : wk.heap.size ≤ H) (hle : ∀ e ∈ es, e.n ≤ n + m) (hm : m ≤ 3) :
    Hid (BMidS B k n w0 w5 vb (es ++ [⟨.slice (some ⟨g, 0, none⟩) (n + m) cap, k, n + m⟩])) := by
  rw [hnews] at hown
  have hk2 : vb = .slice (some ⟨g, 0, none⟩) n cap ∨ ∀ x, x < (wk.alloc o).heap.size → w5.heap[x]? = (wk.alloc o).heap[x]? := hk.imp id (fun h => h.2)
  have hkp : Kp (fun x => vb.ownBlock = some x) w0 w5 := by
    refine ⟨hg.os.trans h.kp.os, hg.tape.trans h.kp.tape, hg.output.trans h.kp.output, Nat.le_trans h.kp.size (by have := hg.size; simp at this; omega), fun x hx hS => ?_⟩
    have hx2 : x < wk.heap.size := Nat.lt_of_lt_of_le hx h.kp.size
    rw [hg.block x (by simp; omega) (fun e => hS e.symm), Below.heap_alloc _ _ _ hx2]
    exact h.kp.block x hx hS
  refine ⟨row_appS (h.row.alloc o) hown hk2, fun e he => ?_, hkp, fun e he => ?_, fun e he x hx => ?_⟩
  · rcases List.mem_append.1 he with he | he
    · exact ((h.rd e he).same (w' := wk.alloc o) (by simp) (fun x hx _ => Below.heap_alloc _ _ _ hx)).app hown hg hk2 (fun _ _ => ⟨(h.le e he).1, hle e he⟩)
    · simp at he
      subst he
      exact RdS.of hown
  · rcases List.mem_append.1 he with he | he
    · exact h.le e he
    · simp at he
      subst he
      exact ⟨rfl, by show n + m ≤ n + 3; omega⟩
  · rcases List.mem_append.1 he with he | he
    · exact h.bl e he x hx
    · simp at he
      subst he
      have hgx : g = x := by simpa [Value.ownBlock] using hx
      subst hgx
      rcases hk with hk | hk
      · left; rw [hk]; rfl
      · right
        have := h.kp.size
        omega
theorem kept_rowS {w w0 w3 : World} {N B wb m n nb : Nat} {T : TypeId} {cs : Array Value} {v vb x : Value} {xs bx : List Value} (hblk : w.heap[wb]? = some (.cells cs 107 (0, 0))) (hw0 : w0 = w.setCell ⟨wb, 5, none⟩ x) (hb : w.ownsRow B 9 1 vb nb bx) (hkp : Kp (fun y => vb.ownBlock = some y) w0 w3) (hT1 : T ≠ 107) (hT2 : T ≠ 9) (h : w.ownsRow N T m v n xs) : w3.ownsRow N T m v n xs := by
  refine ownsRow_of_block h (fun y hy hv => ?_)
  obtain ⟨cur, hc⟩ := own_type h hv
  have h1 : w0.heap[y]? = w.heap[y]? := by
    rw [hw0]
    exact heap_setCell_other _ _ _ _ (fun e => by
      have e : y = wb := e
      rw [e] at hc
      exact hT1 (cells_type hc hblk))
  refine (hkp.block y (by rw [hw0]; simpa [World.setCell] using hy) (fun e => ?_)).trans h1
  obtain ⟨cur2, hc2⟩ := own_type hb e
  exact hT2 (cells_type hc hc2)
theorem kept_rdS {w w0 w3 : World} {wb : Nat} {cs : Array Value} {vb x : Value} {e : BE} (hblk : w.heap[wb]? = some (.cells cs 107 (0, 0))) (hw0 : w0 = w.setCell ⟨wb, 5, none⟩ x) (hkp : Kp (fun y => vb.ownBlock = some y) w0 w3) (h : RdS w e) (hne : ∀ y, e.v.ownBlock = some y → vb.ownBlock ≠ some y) : RdS w3 e := by
  have hs : w0.heap.size = w.heap.size := by rw [hw0]; simp [World.setCell]
  refine h.same (by rw [← hs]; exact hkp.size) (fun y hy hv => ?_)
  obtain ⟨cur, hc⟩ := h.type hv
  have h1 : w0.heap[y]? = w.heap[y]? := by
    rw [hw0]
    exact heap_setCell_other _ _ _ _ (fun e => by
      have e : y = wb := e
      rw [e] at hc
      exact absurd (cells_type hc hblk) (by decide))
  exact (hkp.block y (by omega) (hne y hv)).trans h1
theorem kp_rdS {w w' : World} {wb N n : Nat} {T : TypeId} {cs : Array Value} {v : Value} {xs : List Value} {e : BE} (hblk : w.heap[wb]? = some (.cells cs 107 (0, 0))) (hr : w.ownsRow N T 1 v n xs) (hT : T ≠ 9) (hkp : Kp (fun y => y = wb ∨ v.ownBlock = some y) w w') (h : RdS w e) : RdS w' e :=
  h.same hkp.size (fun y hy hv => hkp.block y hy (fun hS => by
    obtain ⟨cur, hc⟩ := h.type hv
    rcases hS with rfl | hS
    · exact absurd (cells_type hc hblk) (by decide)
    · obtain ⟨cur2, hc2⟩ := own_type hr hS
      exact hT (cells_type hc2 hc)))
theorem byt_midS {w w0 w3 : World} {wb N B k nb : Nat} {vl vbs vkb vss vks vb b5 : Value} {bx : List Value} {bl es : List BE} {ab ak : Option Addr} {cbp ckp : Nat} (hblk : w.heap[wb]? = some (.cells #[vl, vbs, vkb, vss, vks, b5] 107 (0, 0))) (hbs : w.ownsRow N 22 1 vss bl.length (bl.map (·.v))) (hkb : w.ownsRow N 3 1 vks bl.length (bl.map fun e => .int .i64 (e.k : Nat)))
    (hrd : ∀ e ∈ bl, RdS w e) (hb : w.ownsRow B 9 1 vb nb bx) (hne : ∀ e ∈ bl, ∀ x, e.v.ownBlock = some x → vb.ownBlock ≠ some x) (hw0 : w0 = w.setCell ⟨wb, 5, none⟩ (.int .i64 k)) (hm : BMidS B k nb w0 w3 vb es) (hN : N ≤ w.heap.size) (hv : Hid (vss = .slice ab bl.length cbp ∧ vks = .slice ak bl.length ckp)) :
    Hid (w3.heap[wb]? = some (.cells #[vl, vbs, vkb, vss, vks, .int .i64 k] 107 (0, 0)) ∧ w3.ownsRow N 22 1 (.slice ab bl.length cbp) bl.length (bl.map (·.v)) ∧ w3.ownsRow N 3 1 (.slice ak bl.length ckp) bl.length (bl.map fun e => .int .i64 (e.k : Nat)) ∧ (∀ e ∈ bl, RdS w3 e)) ∧ w3.cell? ⟨wb, 3, none⟩ = some (.slice ab bl.length cbp) ∧ wb < w3.heap.size ∧ N ≤ w3.heap.size := by
  have hs0 : w0.heap.size = w.heap.size := by rw [hw0]; simp [World.setCell]
  have hwl : wb < w.heap.size := (Array.getElem?_eq_some_iff.1 hblk).1
  have hnb : vb.ownBlock ≠ some wb := fun e => by
    obtain ⟨cur, hc⟩ := own_type hb e
    exact absurd (cells_type hc hblk) (by decide)
  have hb3 : w3.heap[wb]? = some (.cells #[vl, vbs, vkb, vss, vks, .int .i64 k] 107 (0, 0)) := by
    rw [hm.kp.block wb (by rw [hs0]; exact hwl) hnb, hw0, blk_set hblk]
    rfl
  obtain ⟨q0, q1, q2, q3, q4, q5, qf⟩ := cells6R hb3
  rw [hv.out.1] at q3
  refine ⟨⟨hb3, ?_, ?_, ?_⟩, q3, (Array.getElem?_eq_some_iff.1 hb3).1, by have := hm.kp.size; omega⟩
  · rw [← hv.out.1]; exact kept_rowS hblk hw0 hb hm.kp (by decide) (by decide) hbs
  · rw [← hv.out.2]; exact kept_rowS hblk hw0 hb hm.kp (by decide) (by decide) hkb
  · exact fun e he => kept_rdS hblk hw0 hm.kp (hrd e he) (hne e he)
theorem byt_twoS {w3 w5 : World} {wb N k : Nat} {vl vb1 vkb vss vks : Value} {bl es : List BE} {ab ak : Option Addr} {cbp ckp : Nat} (h : w3.heap[wb]? = some (.cells #[vl, vb1, vkb, vss, vks, .int .i64 k] 107 (0, 0)) ∧ w3.ownsRow N 22 1 (.slice ab bl.length cbp) bl.length (bl.map (·.v)) ∧ w3.ownsRow N 3 1 (.slice ak bl.length ckp) bl.length (bl.map fun e => .int .i64 (e.k : Nat)) ∧ (∀ e ∈ bl, RdS w3 e))
    (hkp : Kp (fun x => x = wb ∨ (Value.slice ab bl.length cbp).ownBlock = some x) w3 w5) (hes : ∀ e ∈ es, RdS w3 e) : w5.ownsRow N 3 1 (.slice ak bl.length ckp) bl.length (bl.map fun e => .int .i64 (e.k : Nat)) ∧ ∀ e ∈ bl ++ es, RdS w5 e :=
  ⟨kp_row h.1 h.2.1 hkp h.2.2.1 (by decide) (by decide), fun e he => by
    rcases List.mem_append.1 he with he | he
    · exact kp_rdS h.1 h.2.1 (by decide) hkp (h.2.2.2 e he)
    · exact kp_rdS h.1 h.2.1 (by decide) hkp (hes e he)⟩
abbrev bl2S (va : Option Addr) (vc n k g1 g2 g3 cap1 cap2 cap3 : Nat) : List BE := ((([⟨.slice va n vc, k, n⟩] ++ [⟨.slice (some ⟨g1, 0, none⟩) (n + 1) cap1, k, n + 1⟩]) ++ [⟨.slice (some ⟨g2, 0, none⟩) (n + 2) cap2, k, n + 2⟩]) ++ [⟨.slice (some ⟨g3, 0, none⟩) (n + 3) cap3, k, n + 3⟩])
def TextsP (N : Nat) (w : World) (wb : Nat) (vl vbs vkb vss vks vb : Value) (bn n : Nat) (bl : List BE) (w' : World) : Prop :=
  ∃ vss' vks' vg vh vj, w'.heap[wb]? = some (.cells #[vl, vbs, vkb, vss', vks', .int .i64 (bn + 1 : Nat)] 107 (0, 0)) ∧
    w'.ownsRow N 22 1 vss' (bl.length + 4) ((bl ++ more4 vb vg vh vj (bn + 1) n).map (·.v)) ∧ w'.ownsRow N 3 1 vks' (bl.length + 4) ((bl ++ more4 vb vg vh vj (bn + 1) n).map fun e => .int .i64 (e.k : Nat)) ∧
    (∀ e ∈ bl ++ more4 vb vg vh vj (bn + 1) n, RdS w' e) ∧ Kp (BytS wb vss vks vb) w w' ∧
    (∀ x, vss'.ownBlock = some x → vss.ownBlock = some x ∨ w.heap.size ≤ x) ∧ (∀ x, vks'.ownBlock = some x → vks.ownBlock = some x ∨ w.heap.size ≤ x) ∧ (∀ x, vg.ownBlock = some x ∨ vh.ownBlock = some x ∨ vj.ownBlock = some x → vb.ownBlock = some x ∨ w.heap.size ≤ x)
theorem info_slstr : (Tryz.prog.info? 22).map (fun i => (i.zero, i.size, i.bytes)) = some (some (.slice none 0 0), 1, 24) := by kernel_rfl
end Go.Proofs.YtjmcokcdaddpcaaGreatDoor
set_option linter.unusedVariables false
set_option linter.unusedSimpArgs false
namespace Go.Proofs.YtjmcokcdaddpcaaGreatDoor
open Go.RowKit
/-- The table of strconv. -/
def TabP (w : World) : Prop := Lib.TabIs Tryz.prog w "internal/strconv.uint64pow10" .u64 Lib.pow10Tab
theorem tab_no : ∃ g, Tryz.prog.globalNamed "internal/strconv.uint64pow10" = some g ∧ g < 5 := by
  refine ⟨(Tryz.prog.globalNamed "internal/strconv.uint64pow10").getD 0, by kernel_rfl, of_decide_eq_true (by kernel_rfl)⟩
theorem TabP.same {w w' : World} (h : TabP w) (hk : ∀ x, x < 5 → w'.heap[x]? = w.heap[x]?) : TabP w' := by
  obtain ⟨g, hg, hl⟩ := tab_no
  unfold TabP Lib.TabIs World.var? at h ⊢
  rw [hg] at h ⊢
  simp only [Option.bind_some] at h ⊢
  rw [hk g hl]
  exact h
theorem TabP.put {w : World} {wb : Nat} (h : TabP w) (v : Value) (o : Nat) (hwb : 5 ≤ wb) : TabP (w.setCell ⟨wb, o, none⟩ v) := h.same (fun x hx => heap_setCell_other _ _ _ _ (fun e => by have e : x = wb := e; omega))
theorem itoa_at (k : Nat) (hk : k < 9223372036854775807) {w : World} (h : TabP w) : Calls Tryz.prog 83 #[.int .i64 k] w fun x w' => x = .returned (.string ⟨(Lib.itoa k).toArray⟩) ∧ Below w.heap.size w w' := by
  refine (Tryz.strconv_Itoa (k : Int) (by omega) (by omega) w h).mono ?_
  rintro x w' ⟨rfl, n, os, rfl⟩
  exact ⟨rfl, ⟨rfl, rfl, rfl, by simp [Go.Sort.grow, World.drewN], fun y hy => by simp [Go.Sort.grow, World.drewN, Array.getElem?_append, hy]⟩⟩
set_option maxRecDepth 100000 in
set_option maxHeartbeats 3200000 in
theorem bTexts_any {w : World} {wb N B bn : Nat} {vl vbs vkb vss vks vb : Value} {bl : List BE} {bs : List (List UInt8)}
    (hblk : w.heap[wb]? = some (.cells #[vl, vbs, vkb, vss, vks, .int .i64 bn] 107 (0, 0))) (hbs : w.ownsRow N 22 1 vss bl.length (bl.map (·.v))) (hkb : w.ownsRow N 3 1 vks bl.length (bl.map fun e => .int .i64 (e.k : Nat)))
    (hrd : ∀ e ∈ bl, RdS w e) (hb : w.ownsRow B 9 1 vb bs.length (bs.map strV)) (hne : ∀ e ∈ bl, ∀ x, e.v.ownBlock = some x → vb.ownBlock ≠ some x) (hlen : bs.length ≤ 3000) (hbl : bl.length ≤ 6400000000000) (hbn : bn ≤ 1600000000000) (hNw : N ≤ w.heap.size) (hB : B ≤ w.heap.size) (htab : TabP w) (hwb : 5 ≤ wb) :
    Calls Tryz.prog 128 #[.pointer (some ⟨wb, 1, none⟩), vb] w fun x w' => x = .returned (.tuple #[]) ∧ TextsP N w wb vl vbs vkb vss vks vb bn bs.length bl w' := by
  obtain ⟨va, vc, rfl⟩ := owned_shape hb
  obtain ⟨ab, cbp, hvbs⟩ := owned_shape hbs
  obtain ⟨ak, ckp, hvkb⟩ := owned_shape hkb
  have HVB : Hid (vss = .slice ab bl.length cbp ∧ vks = .slice ak bl.length ckp) := ⟨hvbs, hvkb⟩
  clear hvbs hvkb
  obtain ⟨k0, k1, k2, k3, k4, k5, kf⟩ := cells6R hblk
  have kf5 := kf 5
  have hwl : wb < w.heap.size := (Array.getElem?_eq_some_iff.1 hblk).1
  have hzn : (bs.length : Int) ≤ 3000 := by omega
  have hzb : (bn : Int) ≤ 1600000000000 := by omega
  have H : Hid (w.heap[wb]? = some (.cells #[vl, vbs, vkb, vss, vks, .int .i64 bn] 107 (0, 0)) ∧ w.ownsRow N 22 1 vss bl.length (bl.map (·.v)) ∧ w.ownsRow N 3 1 vks bl.length (bl.map fun e => .int .i64 (e.k : Nat)) ∧ (∀ e ∈ bl, RdS w e) ∧ w.ownsRow B 9 1 (.slice va bs.length vc) bs.length (bs.map strV) ∧ (∀ e ∈ bl, ∀ x, e.v.ownBlock = some x → (Value.slice va bs.length vc).ownBlock ≠ some x) ∧ TabP w ∧ 5 ≤ wb) := ⟨hblk, hbs, hkb, hrd, hb, hne, htab, hwb⟩
  clear hblk hbs hkb hrd hb hne htab hwb k0 k1 k2 k3 k4 kf
  obtain ⟨k, hk⟩ : ∃ k : Nat, k = bn + 1 := ⟨_, rfl⟩
  have hkI : (bn : Int) + 1 = (k : Int) := by omega
  have hkz : k < 9223372036854775807 := by omega
  have HK : Hid (k = bn + 1) := hk
  clear hk
  have HW : Hid (∀ v, (w.setCell ⟨wb, 5, none⟩ v).ownsRow B 9 1 (.slice va bs.length vc) bs.length (bs.map strV)) := fun v => ownsRow_of_block H.out.2.2.2.2.1 (fun x hx hv => heap_setCell_other _ _ _ _ (fun e => by
    have e : x = wb := e
    obtain ⟨cur, hc⟩ := own_type H.out.2.2.2.2.1 hv
    rw [e] at hc
    exact absurd (cells_type hc H.out.1) (by decide)))
  go_enter Tryz.func128, Tryz.ntmps128
  go_wp2_with fail
  refine (itoa_at k (by omega) ((H.out.2.2.2.2.2.2.1.put (.int .i64 k) 5 H.out.2.2.2.2.2.2.2))).mono ?_
  rintro y w1 ⟨rfl, b1⟩
  obtain ⟨w0, hw0⟩ : ∃ w0, w0 = w.setCell ⟨wb, 5, none⟩ (.int .i64 k) := ⟨_, rfl⟩
  rw [← hw0] at b1
  have HW0 : Hid (w0 = w.setCell ⟨wb, 5, none⟩ (.int .i64 k) ∧ w0.ownsRow B 9 1 (.slice va bs.length vc) bs.length (bs.map strV) ∧ w0.heap.size = w.heap.size ∧ Below w0.heap.size w0 w1) := ⟨hw0, by rw [hw0]; exact HW.out _, by rw [hw0]; simp [World.setCell], b1⟩
  clear hw0 b1
  have hil : (Lib.itoa (k : Int)).length ≤ 21 := Lib.itoa_length_le _ (by omega) (by omega)
  have hil2 : ¬ (9223372036854775807 < 4 + (Lib.itoa (k : Int)).length) := by omega
  have HML : Hid (markL k = [109, 97, 114, 107] ++ Lib.itoa k) := rfl
  go_wp2_with fail
  have e5 : Value.string (({ data := #[109, 97, 114, 107] } : ByteArray) ++ { data := (Lib.itoa (k : Int)).toArray }) = strV (markL k) := by
    unfold markL strV
    simp [ByteArray.mk_append_mk]
  rw [e5]
  clear e5 hil hil2
  go_loopg [6] bs.length (fun g i wr => ∃ m : Nat, i = .int .i64 m ∧ m + g = bs.length ∧ wr.ownsRow B 9 1 (.slice va bs.length vc) bs.length (sts k m ++ (bs.drop m).map strV) ∧ Kp (fun x => (Value.slice va bs.length vc).ownBlock = some x) w0 wr)
  case atStart => exact ⟨0, rfl, by omega, by simpa [sts] using ownsRow_of_block HW0.out.2.1 (fun x hx _ => HW0.out.2.2.2.block x hx), (Kp.refl _ _).ofBelow HW0.out.2.2.2⟩
  case round =>
    obtain ⟨m, rfl, hm, hrow, hkp⟩ := hrel
    by_cases hi : m < bs.length
    · obtain ⟨x, hx⟩ : ∃ x, bs[m]? = some x := ⟨_, List.getElem?_eq_getElem hi⟩
      obtain ⟨g0, rfl, hc1, hc2⟩ := own_some hrow (by omega)
      have e0 := own_at hrow (mid_atS (k := k) hx)
      have ef := own_fz hrow m
      have hgl := World.block_lt_of_cell? _ _ e0
      obtain ⟨j, rfl⟩ : ∃ j, gk = j + 1 := ⟨gk - 1, by omega⟩
      have HR : Hid (wr.ownsRow B 9 1 (.slice (some ⟨g0, 0, none⟩) bs.length vc) bs.length (sts k m ++ (bs.drop m).map strV) ∧ Kp (fun x => (Value.slice (some ⟨g0, 0, none⟩) bs.length vc).ownBlock = some x) w0 wr ∧ bs[m]? = some x) := ⟨hrow, hkp, hx⟩
      clear hrow hkp hx
      go_wp2_with fail
      go_roundg j
      case measure => omega
      case rel => exact ⟨m + 1, by go_num, by omega, by rw [← mid_setS HR.out.2.2]; exact (HR.out.1.stored m _).1, Kp.setCell (a := ⟨g0, m, none⟩) HR.out.2.1 (.inl rfl) _⟩
    · have hml : m = bs.length := by omega
      subst hml
      rw [List.drop_length, List.map_nil, List.append_nil] at hrow
      have HR : Hid (wr.ownsRow B 9 1 (.slice va bs.length vc) bs.length (sts k bs.length) ∧ Kp (fun x => (Value.slice va bs.length vc).ownBlock = some x) w0 wr) := ⟨hrow, hkp⟩
      have hsz : w.heap.size ≤ wr.heap.size := by rw [← HW0.out.2.2.1]; exact hkp.size
      clear hrow hkp
      obtain ⟨i0, hi0, hz0, hz1, hz2⟩ := info_parts Tryz.infoStr
      have HB0 : Hid (BMidS B k bs.length w0 wr (.slice va bs.length vc) [⟨.slice va bs.length vc, k, bs.length⟩]) := ⟨HR.out.1, fun e he => by simp at he; subst he; exact RdS.of HR.out.1, HR.out.2, fun e he => by simp at he; subst he; exact ⟨rfl, by show bs.length ≤ bs.length + 3; omega⟩, fun e he x hx => by simp at he; subst he; exact .inl hx⟩
      have hBr : B ≤ wr.heap.size := by omega
      have hzbl : (bl.length : Int) ≤ 6400000000000 := by omega
      obtain ⟨j0, hj0, jz0, jz1, jz2⟩ := info_parts info_slstr
      obtain ⟨l0, hl0, lz0, lz1, lz2⟩ := info_parts info_int
      go_wp2_with (first
        | (at_builtin; refine wpList_append_keep _ rfl (.tmp 34) (.tmp 36) 22 rfl B 9 i0 _ 1 16 Tryz.underlying22 hi0 hz0 hz1 hz2 rfl (by decide) (.slice va bs.length vc) bs.length _ (by simp [Act.eval, Act.put]) (HB0.out.row.alloc _) ⟨wr.heap.size, 0, none⟩ 1 1 [strV (markL k)] (by simp [Act.eval, Act.put]) rfl (by exact news_l (by simp)) (by intro u hu; simp at hu; subst hu; rfl) (by decide) (by unfold maxLen; omega) (by omega) (by simp; omega) _ rfl ?_; intro g1 cap1 w1b hown hgrow hat hlt5; have HB1 : Hid (BMidS B k bs.length w0 w1b (.slice va bs.length vc) ([⟨.slice va bs.length vc, k, bs.length⟩] ++ [⟨.slice (some ⟨g1, 0, none⟩) (bs.length + 1) cap1, k, bs.length + 1⟩])) := HB0.out.app (sts_snoc k _).symm hown hgrow hat (by simp) (by simp) (by omega); clear hown hgrow hat hlt5; have hB1 : B ≤ w1b.heap.size := (by have := HB1.out.kp.size; have := HW0.out.2.2.1; omega))
        | (at_builtin; refine wpList_append_keep _ rfl (.tmp 38) (.tmp 41) 22 rfl B 9 i0 _ 1 16 Tryz.underlying22 hi0 hz0 hz1 hz2 rfl (by decide) (.slice va bs.length vc) bs.length _ (by simp [Act.eval, Act.put]) (HB1.out.row.alloc _) ⟨w1b.heap.size, 0, none⟩ 2 2 [strV (markL k), strV (markL k)] (by simp [Act.eval, Act.put]) rfl (by exact news_l (by simp)) (by intro u hu; simp at hu; subst hu; rfl) (by decide) (by unfold maxLen; omega) (by omega) (by simp; omega) _ rfl ?_; intro g2 cap2 w2 hown hgrow hat hlt5; have HB2 : Hid (BMidS B k bs.length w0 w2 (.slice va bs.length vc) (([⟨.slice va bs.length vc, k, bs.length⟩] ++ [⟨.slice (some ⟨g1, 0, none⟩) (bs.length + 1) cap1, k, bs.length + 1⟩]) ++ [⟨.slice (some ⟨g2, 0, none⟩) (bs.length + 2) cap2, k, bs.length + 2⟩])) := HB1.out.app (sts_2 k _).symm hown hgrow hat (by simp) (by simp) (by omega); clear hown hgrow hat hlt5; have hB2 : B ≤ w2.heap.size := (by have := HB2.out.kp.size; have := HW0.out.2.2.1; omega))
        | (at_builtin; refine wpList_append_keep _ rfl (.tmp 43) (.tmp 47) 22 rfl B 9 i0 _ 1 16 Tryz.underlying22 hi0 hz0 hz1 hz2 rfl (by decide) (.slice va bs.length vc) bs.length _ (by simp [Act.eval, Act.put]) (HB2.out.row.alloc _) ⟨w2.heap.size, 0, none⟩ 3 3 [strV (markL k), strV (markL k), strV (markL k)] (by simp [Act.eval, Act.put]) rfl (by exact news_l (by simp)) (by intro u hu; simp at hu; subst hu; rfl) (by decide) (by unfold maxLen; omega) (by omega) (by simp; omega) _ rfl ?_; intro g3 cap3 w3 hown hgrow hat hlt5; have HB3 : Hid (BMidS B k bs.length w0 w3 (.slice va bs.length vc) ((([⟨.slice va bs.length vc, k, bs.length⟩] ++ [⟨.slice (some ⟨g1, 0, none⟩) (bs.length + 1) cap1, k, bs.length + 1⟩]) ++ [⟨.slice (some ⟨g2, 0, none⟩) (bs.length + 2) cap2, k, bs.length + 2⟩]) ++ [⟨.slice (some ⟨g3, 0, none⟩) (bs.length + 3) cap3, k, bs.length + 3⟩])) := HB2.out.app (sts_3 k _).symm hown hgrow hat (by simp) (by simp) (by omega); clear hown hgrow hat hlt5; obtain ⟨HS3, q1, hwl3, hN3⟩ := byt_midS H.out.1 H.out.2.1 H.out.2.2.1 H.out.2.2.2.1 H.out.2.2.2.2.1 H.out.2.2.2.2.2.1 HW0.out.1 HB3.out hNw HVB)
        | (at_builtin; refine wpList_append_far _ rfl (.tmp 53) (.tmp 58) 103 rfl N 22 j0 _ 1 24 Tryz.underlying103 hj0 jz0 jz1 jz2 rfl (by decide) (.slice ab bl.length cbp) bl.length _ (by simp [Act.eval, Act.put]) (HS3.out.2.1.alloc _) ⟨w3.heap.size, 0, none⟩ 4 4 [.slice va bs.length vc, .slice (some ⟨g1, 0, none⟩) (bs.length + 1) cap1, .slice (some ⟨g2, 0, none⟩) (bs.length + 2) cap2, .slice (some ⟨g3, 0, none⟩) (bs.length + 3) cap3] (by simp [Act.eval, Act.put]) rfl (by exact news_l (by simp)) (by intro u hu; simp at hu; rcases hu with rfl | rfl | rfl | rfl <;> rfl) (by decide) (by unfold maxLen; omega) (by omega) (by simp; omega) _ rfl ?_; intro g4 cap4 w4 hown hgrow hat hlt5; obtain ⟨pb4, pb5, prow, pkp, pg⟩ := put_row (j := 3) HS3.out.1 (by decide) HS3.out.2.1 hown hgrow (by simpa using hat); obtain ⟨s0, s1, s2, s3, s4, s5, sf⟩ := cells6R pb4; rw [HVB.out.1] at s3; have sf3 := sf 3; have hwl4 : wb < w4.heap.size := (Array.getElem?_eq_some_iff.1 pb4).1; have HP : Hid ((w4.setCell ⟨wb, 3, none⟩ (.slice (some ⟨g4, 0, none⟩) (bl.length + 4) cap4)).heap[wb]? = some (.cells #[vl, vbs, vkb, (.slice (some ⟨g4, 0, none⟩) (bl.length + 4) cap4), vks, .int .i64 k] 107 (0, 0)) ∧ Kp (fun x => x = wb ∨ (Value.slice ab bl.length cbp).ownBlock = some x) w3 (w4.setCell ⟨wb, 3, none⟩ (.slice (some ⟨g4, 0, none⟩) (bl.length + 4) cap4)) ∧ ((Value.slice ab bl.length cbp).ownBlock = some g4 ∨ w3.heap.size ≤ g4) ∧ (w4.setCell ⟨wb, 3, none⟩ (.slice (some ⟨g4, 0, none⟩) (bl.length + 4) cap4)).ownsRow N 22 1 (.slice (some ⟨g4, 0, none⟩) (bl.length + 4) cap4) (bl.length + 4) (bl.map (·.v) ++ [.slice va bs.length vc, .slice (some ⟨g1, 0, none⟩) (bs.length + 1) cap1, .slice (some ⟨g2, 0, none⟩) (bs.length + 2) cap2, .slice (some ⟨g3, 0, none⟩) (bs.length + 3) cap3]) ∧ (w4.setCell ⟨wb, 3, none⟩ (.slice (some ⟨g4, 0, none⟩) (bl.length + 4) cap4)).ownsRow N 3 1 (.slice ak bl.length ckp) bl.length (bl.map fun e => .int .i64 (e.k : Nat)) ∧ ∀ e ∈ bl ++ ((([⟨.slice va bs.length vc, k, bs.length⟩] ++ [⟨.slice (some ⟨g1, 0, none⟩) (bs.length + 1) cap1, k, bs.length + 1⟩]) ++ [⟨.slice (some ⟨g2, 0, none⟩) (bs.length + 2) cap2, k, bs.length + 2⟩]) ++ [⟨.slice (some ⟨g3, 0, none⟩) (bs.length + 3) cap3, k, bs.length + 3⟩]), RdS (w4.setCell ⟨wb, 3, none⟩ (.slice (some ⟨g4, 0, none⟩) (bl.length + 4) cap4)) e) := ⟨pb5, pkp, pg, prow, byt_twoS HS3.out pkp HB3.out.rd⟩; have t2 := (cells6R HP.out.1).2.2.2.2.1; rw [HVB.out.2] at t2; have hN4 : N ≤ w4.heap.size := (by have := HP.out.2.1.size; simp [World.setCell] at this; omega); clear hown hgrow hat hlt5 pb4 pb5 prow pkp pg s0 s1 s2 s4 s5 sf)
        | (at_builtin; refine wpList_append_lies _ rfl (.tmp 66) (.tmp 71) 37 rfl N 3 l0 _ 1 8 Tryz.underlying37 hl0 lz0 lz1 lz2 rfl (by decide) (.slice ak bl.length ckp) bl.length _ (by simp [Act.eval, Act.put]) (HP.out.2.2.2.2.1.alloc _) ⟨w4.heap.size, 0, none⟩ 4 4 [.int .i64 k, .int .i64 k, .int .i64 k, .int .i64 k] (by simp [Act.eval, Act.put]) rfl (by exact news_l (by simp [World.setCell])) (by intro u hu; simp at hu; subst hu; rfl) (by decide) (by unfold maxLen; omega) (by omega) (by simp [World.setCell]; omega) _ rfl ?_; intro g6 cap6 w6 hown hgrow hat hlt5; obtain ⟨pb6, pb7, prow, pkp, pg⟩ := put_row (j := 4) HP.out.1 (by decide) HP.out.2.2.2.2.1 hown hgrow (by simpa [World.setCell] using hat); obtain ⟨s0, s1, s2, s3, s4, s5, sf⟩ := cells6R pb6; rw [HVB.out.2] at s4; have sf4 := sf 4; have hwl6 : wb < w6.heap.size := (Array.getElem?_eq_some_iff.1 pb6).1; have HQ : Hid ((w6.setCell ⟨wb, 4, none⟩ (.slice (some ⟨g6, 0, none⟩) (bl.length + 4) cap6)).heap[wb]? = some (.cells #[vl, vbs, vkb, (.slice (some ⟨g4, 0, none⟩) (bl.length + 4) cap4), (.slice (some ⟨g6, 0, none⟩) (bl.length + 4) cap6), .int .i64 k] 107 (0, 0)) ∧ Kp (fun x => x = wb ∨ (Value.slice ak bl.length ckp).ownBlock = some x) (w4.setCell ⟨wb, 3, none⟩ (.slice (some ⟨g4, 0, none⟩) (bl.length + 4) cap4)) (w6.setCell ⟨wb, 4, none⟩ (.slice (some ⟨g6, 0, none⟩) (bl.length + 4) cap6)) ∧ ((Value.slice ak bl.length ckp).ownBlock = some g6 ∨ (w4.setCell ⟨wb, 3, none⟩ (.slice (some ⟨g4, 0, none⟩) (bl.length + 4) cap4)).heap.size ≤ g6) ∧ (w6.setCell ⟨wb, 4, none⟩ (.slice (some ⟨g6, 0, none⟩) (bl.length + 4) cap6)).ownsRow N 3 1 (.slice (some ⟨g6, 0, none⟩) (bl.length + 4) cap6) (bl.length + 4) ((bl.map fun e => .int .i64 (e.k : Nat)) ++ [.int .i64 k, .int .i64 k, .int .i64 k, .int .i64 k])) := ⟨pb7, pkp, pg, prow⟩; clear hown hgrow hat hlt5 pb6 pb7 prow pkp pg s0 s1 s2 s3 s5 sf))
      go_wp2_with fail
      go_end0
      refine ⟨rfl, ?_⟩
      have hk1 := HK.out
      subst hk1
      have hs5 := HP.out.2.1.size
      have hs3 := HB3.out.kp.size
      have hs0 := HW0.out.2.2.1
      refine ⟨.slice (some ⟨g4, 0, none⟩) (bl.length + 4) cap4, .slice (some ⟨g6, 0, none⟩) (bl.length + 4) cap6, .slice (some ⟨g1, 0, none⟩) (bs.length + 1) cap1, .slice (some ⟨g2, 0, none⟩) (bs.length + 2) cap2, .slice (some ⟨g3, 0, none⟩) (bs.length + 3) cap3, HQ.out.1, ?_, ?_, fun e he => ?_, ?_, ?_⟩
      · have := kp_row HP.out.1 HP.out.2.2.2.2.1 HQ.out.2.1 HP.out.2.2.2.1 (by decide) (by decide)
        simpa [more4] using this
      · simpa [more4] using HQ.out.2.2.2
      · exact kp_rdS HP.out.1 HP.out.2.2.2.2.1 (by decide) HQ.out.2.1 (HP.out.2.2.2.2.2 e (by simpa [more4] using he))
      · refine byt_kp (w5 := w4.setCell ⟨wb, 3, none⟩ (.slice (some ⟨g4, 0, none⟩) (bl.length + 4) cap4)) HW0.out.1 HB3.out.kp ?_ ?_
        · rw [HVB.out.1]; exact HP.out.2.1
        · rw [HVB.out.2]; exact HQ.out.2.1
      · have hbb : ∀ e ∈ bl2S va vc bs.length (bn + 1) g1 g2 g3 cap1 cap2 cap3, ∀ y, e.v.ownBlock = some y → (Value.slice va bs.length vc).ownBlock = some y ∨ w.heap.size ≤ y := fun e he y hy => (HB3.out.bl e he y hy).imp id (fun h => by omega)
        refine ⟨fun x hx => ?_, fun x hx => ?_, fun x hx => ?_⟩
        · have hg : g4 = x := by simpa [Value.ownBlock] using hx
          subst hg
          rw [HVB.out.1]
          exact HP.out.2.2.1.imp id (fun h => by omega)
        · have hg : g6 = x := by simpa [Value.ownBlock] using hx
          subst hg
          rw [HVB.out.2]
          exact HQ.out.2.2.1.imp id (fun h => by omega)
        · rcases hx with hx | hx | hx
          · exact hbb ⟨.slice (some ⟨g1, 0, none⟩) (bs.length + 1) cap1, bn + 1, bs.length + 1⟩ (by simp [bl2S]) x hx
          · exact hbb ⟨.slice (some ⟨g2, 0, none⟩) (bs.length + 2) cap2, bn + 1, bs.length + 2⟩ (by simp [bl2S]) x hx
          · exact hbb ⟨.slice (some ⟨g3, 0, none⟩) (bs.length + 3) cap3, bn + 1, bs.length + 3⟩ (by simp [bl2S]) x hx
end Go.Proofs.YtjmcokcdaddpcaaGreatDoor
