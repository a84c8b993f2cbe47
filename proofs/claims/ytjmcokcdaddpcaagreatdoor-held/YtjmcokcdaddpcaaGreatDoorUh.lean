import Derived.Test.YtjmcokcdaddpcaaGreatDoorUa
import Derived.Test.YtjmcokcdaddpcaaGreatDoorUc
import Derived.KernelRfl
import Derived.Deep.QuietTactic
import Derived.BigQuiet
import Derived.Deep.RegionWith
import Derived.Deep.LoopGhost
import Derived.Test.YtjmcokcdaddpcaaGreatDoorPureA
import Derived.Test.YtjmcokcdaddpcaaGreatDoorReC
/- The spelt texts, as functions: no program in it. -/
namespace Dsr
/-- The lines of the graph that is spelt. -/
def LL : List (List (List UInt8)) := [
  [[101, 118, 101, 110, 116], [102, 105, 108, 101], [98, 121], [99, 108, 101, 114, 107], [44], [98, 111, 115, 115], [100, 117, 101], [59]],
  [[101, 118, 101, 110, 116], [115, 105, 103, 110], [98, 121], [98, 111, 115, 115], [111, 117, 116], [100, 111, 110, 101], [59]],
  [[102, 105, 108, 101], [45, 62, 43], [115, 105, 103, 110], [59]],
  [[102, 105, 108, 101], [45, 62, 42], [115, 105, 103, 110], [59]],
  [[115, 105, 103, 110], [42, 45, 62], [102, 105, 108, 101], [59]],
  [[102, 105, 108, 101], [45, 62, 43], [115, 105, 103, 110], [59]],
  [[115, 105, 103, 110], [45, 62, 60, 62], [115, 105, 103, 110], [59]]]
def lineAt (j : Nat) : List (List UInt8) := LL.getD j []
def tokAt (j k : Nat) : List UInt8 := (lineAt j).getD k []
/-- Does a token begin with a letter? -/
def wordB : List UInt8 → Bool
  | [] => false
  | c :: _ => letter c
structure SS where
  s : List UInt8
  at_ : Nat
  n : Nat
  word : Bool
/-- One token more: the blanks by the number of the token. -/
def spStep (g : Nat → List UInt8) (bad : Int) (st : SS) (w : List UInt8) : SS :=
  ⟨st.s ++ g st.n ++ (if st.word && wordB w then [32] else []) ++ (if (st.n : Int) = bad then [61] else []) ++ w,
   if (st.n : Int) = bad then (st.s ++ g st.n ++ (if st.word && wordB w then [32] else [])).length else st.at_,
   st.n + 1, wordB w⟩
def spLine (g : Nat → List UInt8) (bad : Int) (st : SS) (l : List (List UInt8)) : SS := l.foldl (spStep g bad) st
def spAll (g : Nat → List UInt8) (bad : Int) (turn : Nat) : Nat → SS
  | 0 => ⟨[], 0, 0, false⟩
  | i + 1 => spLine g bad (spAll g bad turn i) (lineAt ((i + turn) % 7))
/-- So many tokens, so long a text. -/
def SS.fit (st : SS) : Prop := st.s.length ≤ 9 * st.n ∧ st.at_ ≤ st.s.length
theorem step_fit {g : Nat → List UInt8} (hg : ∀ n, (g n).length ≤ 2) {bad : Int} {st : SS} {w : List UInt8} (hw : w.length ≤ 5) (h : st.fit) : (spStep g bad st w).fit := by
  have := hg st.n
  unfold SS.fit at *
  unfold spStep
  simp only [List.length_append]
  refine ⟨?_, ?_⟩
  · split <;> split <;> simp <;> omega
  · split <;> split <;> simp <;> omega
theorem line_fit {g : Nat → List UInt8} (hg : ∀ n, (g n).length ≤ 2) {bad : Int} : ∀ (l : List (List UInt8)) (st : SS), (∀ w ∈ l, w.length ≤ 5) → st.fit → (spLine g bad st l).fit ∧ (spLine g bad st l).n = st.n + l.length
  | [], st, _, h => ⟨h, rfl⟩
  | w :: l, st, hl, h => by
    have := line_fit hg (bad := bad) l (spStep g bad st w) (fun x hx => hl x (by simp [hx])) (step_fit hg (hl w (by simp)) h)
    refine ⟨this.1, this.2.trans ?_⟩
    simp [spStep]; omega
theorem line_ok : ∀ j, j < 7 → (lineAt j).length ≤ 8 ∧ 0 < (lineAt j).length ∧ ∀ w ∈ lineAt j, w.length ≤ 5 ∧ w ≠ [] := by decide
theorem all_fit {g : Nat → List UInt8} (hg : ∀ n, (g n).length ≤ 2) {bad : Int} {turn : Nat} : ∀ i, (spAll g bad turn i).fit ∧ (spAll g bad turn i).n ≤ 8 * i
  | 0 => ⟨⟨Nat.zero_le _, Nat.le_refl _⟩, Nat.le_refl _⟩
  | i + 1 => by
    have h := all_fit hg (bad := bad) (turn := turn) i
    have hj := line_ok ((i + turn) % 7) (Nat.mod_lt _ (by decide))
    have := line_fit hg (bad := bad) (lineAt ((i + turn) % 7)) _ (fun w hw => (hj.2.2 w hw).1) h.1
    refine ⟨this.1, ?_⟩
    have h2 := this.2
    show (spLine g bad (spAll g bad turn i) (lineAt ((i + turn) % 7))).n ≤ _
    omega
theorem line_snoc (g : Nat → List UInt8) (bad : Int) (st : SS) (l : List (List UInt8)) (k : Nat) (w : List UInt8) (h : l[k]? = some w) : spLine g bad st (l.take (k + 1)) = spStep g bad (spLine g bad st (l.take k)) w := by
  unfold spLine
  have hk : k < l.length := by
    rcases Nat.lt_or_ge k l.length with hk | hk
    · exact hk
    · rw [List.getElem?_eq_none hk] at h; cases h
  rw [List.getElem?_eq_getElem hk] at h
  cases h
  rw [List.take_succ_eq_append_getElem hk, List.foldl_append]
  rfl
end Dsr
set_option linter.unusedVariables false
set_option linter.unusedSimpArgs false
namespace Go.Proofs.YtjmcokcdaddpcaaGreatDoor
open Go.RowKit
/-- pick: a raw number folded. -/
def pickN (c : Int) (n : Int) : Int := (if c < 0 then -(c + 1) else c) % n
set_option maxHeartbeats 800000 in
theorem kpick_any (c n : Int) (w : World) (h0 : -9223372036854775808 ≤ c) (h1 : c ≤ 9223372036854775807) (hn : 1 ≤ n) (hn' : n ≤ 1000) :
    Calls Tryz.prog 19 #[.int .i64 c, .int .i64 n] w fun e w' => e = .returned (.int .i64 (pickN c n)) ∧ w' = w := by
  have hn0 : (n == 0) = false := by simp; omega
  by_cases hc : c < 0
  · have hE : pickN c n = (-(c + 1)) % n := by unfold pickN; rw [if_pos hc]
    have HE : Hid (pickN c n = (-(c + 1)) % n) := hE
    clear hE
    go_enter Tryz.func19, Tryz.ntmps19
    go_wp2
    go_ret
    refine ⟨ret_int ?_, rfl⟩
    rw [HE.out]
    have h2 : ((-(c + 1)).tmod n) = (-(c + 1)) % n := Int.tmod_eq_emod_of_nonneg (by omega)
    rw [← Int.neg_tmod]; exact h2
  · have hE : pickN c n = c % n := by unfold pickN; rw [if_neg hc]
    have HE : Hid (pickN c n = c % n) := hE
    clear hE
    go_enter Tryz.func19, Tryz.ntmps19
    go_wp2
    go_ret
    exact ⟨ret_int HE.out.symm, rfl⟩
set_option maxHeartbeats 800000 in
theorem kletter_any (c : UInt8) (l : List UInt8) (w : World) : Calls Tryz.prog 52 #[.string ⟨(c :: l).toArray⟩] w fun e w' => e = .returned (.bool (Dsr.letter c)) ∧ w' = w := by
  go_enter Tryz.func52, Tryz.ntmps52
  have h0 : (ByteArray.mk (c :: l).toArray)[0]'(by simp [ByteArray.size]) = c := rfl
  by_cases h1 : 97 ≤ c.toNat
  · have h2 : (97 : Int) ≤ (c.toNat : Int) := by omega
    have HE : Hid (Dsr.letter c = decide ((c.toNat : Int) ≤ 122)) := by
      show _ = _
      unfold Dsr.letter
      rw [Bool.eq_iff_iff]; simp; omega
    go_wp2
    all_goals
      go_ret
      exact ⟨ret_bool HE.out.symm, rfl⟩
  · have h2 : (c.toNat : Int) < 97 := by omega
    have HE : Hid (Dsr.letter c = false) := by
      show _ = _
      unfold Dsr.letter
      simp [h1]
    go_wp2
    all_goals
      go_ret
      exact ⟨ret_bool HE.out.symm, rfl⟩
/-- A slice of whole numbers that can be read. -/
def RawIs (w : World) (v : Value) (zs : List Int) : Prop :=
  (v = .slice none 0 0 ∧ zs = []) ∨ ∃ (a : Addr) (cap : Nat), v = .slice (some a) zs.length cap ∧ zs.length ≤ maxLen ∧ (∀ i, i < zs.length → w.cell? (a.add i) = some (.int .i64 (zs.getD i 0))) ∧ ∀ z ∈ zs, (Lit.int .i64 z).wf = true
/-- The blanks of a raw number. -/
def gapL (k : Int) : List UInt8 := (if k < 3 then [] else if k % 3 = 0 then [32] else if k % 3 = 1 then [9] else [10]) ++ (if k < 6 then [] else [32])
def gapN (zs : List Int) (n : Nat) : List UInt8 := if zs.length = 0 then [] else gapL (pickN (IntKind.i64.wrap (zs.getD (n % zs.length) 0 + (n / zs.length : Nat))) 9)
theorem pickN_lt (c : Int) : 0 ≤ pickN c 9 ∧ pickN c 9 < 9 := by unfold pickN; split <;> omega
set_option maxHeartbeats 1600000 in
theorem kgap_any (w : World) (v : Value) (zs : List Int) (n : Nat) (hn : n ≤ 100) (h : RawIs w v zs) :
    Calls Tryz.prog 51 #[v, .int .i64 n] w fun e w' => e = .returned (strV (gapN zs n)) ∧ ∃ m, w' = w.drewN m := by
  rcases h with ⟨rfl, rfl⟩ | ⟨a, cap, rfl, hm, hc, hw⟩
  · go_enter Tryz.func51, Tryz.ntmps51
    go_wp2
    go_ret
    exact ⟨rfl, 0, rfl⟩
  · by_cases h0 : zs.length = 0
    · have : zs = [] := List.eq_nil_of_length_eq_zero h0
      subst this
      go_enter Tryz.func51, Tryz.ntmps51
      go_wp2
      go_ret
      exact ⟨rfl, 0, rfl⟩
    · have hq : n % zs.length < zs.length := Nat.mod_lt _ (by omega)
      have hcq := hc _ hq
      have hb0 : ((zs.length : Int) == 0) = false := beq_eq_false_iff_ne.2 (by omega)
      have hmod : ((n : Int).tmod (zs.length : Int)) = ((n % zs.length : Nat) : Int) := by rw [Int.tmod_eq_emod_of_nonneg (Int.natCast_nonneg _)]; rfl
      have hdiv : ((n : Int).tdiv (zs.length : Int)) = ((n / zs.length : Nat) : Int) := by rw [Int.tdiv_eq_ediv_of_nonneg (Int.natCast_nonneg _)]; rfl
      have hdl : n / zs.length ≤ n := Nat.div_le_self _ _
      have HE : Hid (gapN zs n = gapL (pickN (IntKind.i64.wrap (zs.getD (n % zs.length) 0 + (n / zs.length : Nat))) 9)) := by show _ = _; unfold gapN; rw [if_neg h0]
      generalize hz : zs.getD (n % zs.length) 0 = z at *
      generalize n / zs.length = d at *
      generalize n % zs.length = m at *
      have hwz : (Lit.int .i64 z).wf = true := by
        subst hz
        exact hw _ (by rw [List.getD, List.getElem?_eq_getElem hq]; exact List.getElem_mem _)
      have hmI : (m : Int) < (zs.length : Int) := by omega
      have hwd : IntKind.i64.wrap (d : Int) = (d : Int) := by
        simp [IntKind.wrap, IntKind.bits, IntKind.signed]; omega
      have hx : -9223372036854775808 ≤ IntKind.i64.wrap (z + d) ∧ IntKind.i64.wrap (z + d) ≤ 9223372036854775807 := by
        simp only [IntKind.wrap, IntKind.bits, IntKind.signed]; simp; omega
      clear hz hc hw hwz
      have hX : ∃ X, IntKind.i64.wrap (z + d) = X := ⟨_, rfl⟩
      obtain ⟨X, hX⟩ := hX
      rw [hX] at HE hx
      have hp := pickN_lt X
      have HK : Hid (-9223372036854775808 ≤ X ∧ X ≤ 9223372036854775807) := hx
      clear hx
      have hpk : ∃ K, pickN X 9 = K := ⟨_, rfl⟩
      obtain ⟨K, hpk⟩ := hpk
      have HC : Hid (∀ W : World, Calls Tryz.prog 19 #[.int .i64 X, .int .i64 9] W fun e w' => e = .returned (.int .i64 K) ∧ w' = W) := fun W => by
        rw [← hpk]
        exact kpick_any X 9 W HK.out.1 HK.out.2 (by decide) (by decide)
      rw [hpk] at HE hp
      clear hpk
      go_enter Tryz.func51, Tryz.ntmps51
      go_wp2_with fail
      go_quiet (first | (go_at_call 19; exact Calls.quiet_of_same (HC.out _)) | exact Calls.quiet_of_same (HC.out _))
      have hcs : K = 0 ∨ K = 1 ∨ K = 2 ∨ K = 3 ∨ K = 4 ∨ K = 5 ∨ K = 6 ∨ K = 7 ∨ K = 8 := by omega
      clear hp
      rcases hcs with rfl | rfl | rfl | rfl | rfl | rfl | rfl | rfl | rfl
      all_goals
        go_wp2_with fail
        go_ret
        refine ⟨?_, _, rfl⟩
        rw [HE.out]
        rfl
end Go.Proofs.YtjmcokcdaddpcaaGreatDoor
namespace Go.Proofs.YtjmcokcdaddpcaaGreatDoor
open Go.RowKit
/-- The lines lie in memory, from a block on. -/
structure LinesAt (b : Nat) (w : World) : Prop where
  outer : ∀ j, j < 7 → w.cell? ⟨b + 7, j, none⟩ = some (.slice (some ⟨b + j, 0, none⟩) (Dsr.lineAt j).length (Dsr.lineAt j).length)
  inner : ∀ j k, j < 7 → k < (Dsr.lineAt j).length → w.cell? ⟨b + j, k, none⟩ = some (strV (Dsr.tokAt j k))
def allocAll : List Obj → World → World
  | [], w => w
  | o :: l, w => allocAll l (w.alloc o)
theorem allocAll_old : ∀ (l : List Obj) (w : World) (b : Nat), b < w.heap.size → (allocAll l w).heap[b]? = w.heap[b]?
  | [], w, b, _ => rfl
  | o :: l, w, b, h => (allocAll_old l (w.alloc o) b (by simp; omega)).trans (Below.heap_alloc _ _ _ h)
theorem allocAll_at : ∀ (l : List Obj) (w : World) (i : Nat) (o : Obj), l[i]? = some o → (allocAll l w).heap[w.heap.size + i]? = some o
  | [], w, i, o, h => by simp at h
  | x :: l, w, 0, o, h => by
    cases h
    exact (allocAll_old l (w.alloc x) w.heap.size (by simp)).trans (heap_alloc_new _ _)
  | x :: l, w, i + 1, o, h => by
    have := allocAll_at l (w.alloc x) i o h
    have e : (w.alloc x).heap.size + i = w.heap.size + (i + 1) := by simp; omega
    rw [e] at this
    exact this
theorem allocAll_below : ∀ (l : List Obj) (w a : World) (B : Nat), Below B a w → B ≤ w.heap.size → Below B a (allocAll l w)
  | [], _, _, _, h, _ => h
  | o :: l, w, a, B, h, hB => allocAll_below l (w.alloc o) a B (h.alloc hB _) (by simp; omega)
theorem linesAt_of {b : Nat} {w : World} {T U : TypeId} (h7 : w.heap[b + 7]? = some (.cells ((List.range 7).map fun j => Value.slice (some ⟨b + j, 0, none⟩) (Dsr.lineAt j).length (Dsr.lineAt j).length).toArray T (0, 0)))
    (h : ∀ j, j < 7 → w.heap[b + j]? = some (.cells ((Dsr.lineAt j).map strV).toArray U (0, 0))) : LinesAt b w := by
  constructor
  · intro j hj
    simp only [World.cell?, h7]
    simp [hj]
  · intro j k hj hk
    simp only [World.cell?, h j hj]
    simp [hk, Dsr.tokAt]
set_option maxRecDepth 100000 in
set_option maxHeartbeats 3200000 in
theorem klines_any (w : World) :
    Calls Tryz.prog 50 #[] w fun e w' => e = .returned (.slice (some ⟨w.heap.size + 7, 0, none⟩) 7 7) ∧ LinesAt w.heap.size w' ∧ Below w.heap.size w w' := by
  go_enter Tryz.func50, Tryz.ntmps50
  go_wp2_with fail
  go_ret
  have hA : ∀ w' : World, w' = allocAll ((List.range 7).map (fun j => Obj.cells ((Dsr.lineAt j).map strV).toArray 9) ++ [Obj.cells ((List.range 7).map fun j => Value.slice (some ⟨w.heap.size + j, 0, none⟩) (Dsr.lineAt j).length (Dsr.lineAt j).length).toArray 22]) w → LinesAt w.heap.size w' ∧ Below w.heap.size w w' := by
    rintro w' rfl
    refine ⟨linesAt_of (T := 22) (U := 9) (allocAll_at _ _ 7 _ rfl) (fun j hj => allocAll_at _ _ j _ ?_), allocAll_below _ _ _ _ (Below.refl _ _) (Nat.le_refl _)⟩
    rw [List.getElem?_append_left (by simpa using hj)]
    simp [hj]
  refine ⟨rfl, hA _ rfl⟩
end Go.Proofs.YtjmcokcdaddpcaaGreatDoor
set_option linter.unusedVariables false
set_option linter.unusedSimpArgs false
namespace Go.Proofs.YtjmcokcdaddpcaaGreatDoor
open Go.RowKit
theorem gapL_ok (k : Int) : (gapL k).length ≤ 2 ∧ ∀ c ∈ gapL k, Dsr.blank c = true := by
  unfold gapL
  constructor
  · split <;> split <;> (try split) <;> (try split) <;> simp
  · intro c hc
    simp only [List.mem_append] at hc
    rcases hc with hc | hc
    · split at hc
      · simp at hc
      · split at hc
        · simp at hc; subst hc; rfl
        · split at hc
          · simp at hc; subst hc; rfl
          · simp at hc; subst hc; rfl
    · split at hc
      · simp at hc
      · simp at hc; subst hc; rfl
theorem gapN_ok (zs : List Int) (n : Nat) : (gapN zs n).length ≤ 2 ∧ ∀ c ∈ gapN zs n, Dsr.blank c = true := by
  unfold gapN
  split
  · simp
  · exact gapL_ok _
theorem RawIs.below {w w' : World} {v : Value} {zs : List Int} (h : RawIs w v zs) (hb : Below w.heap.size w w') : RawIs w' v zs := by
  rcases h with h | ⟨a, cap, h1, h2, h3, h4⟩
  · exact .inl h
  · refine .inr ⟨a, cap, h1, h2, fun i hi => ?_, h4⟩
    have := h3 i hi
    rw [hb.cell (World.block_lt_of_cell? _ _ this)]
    exact this
theorem RawIs.drewN {w : World} {v : Value} {zs : List Int} (h : RawIs w v zs) (n : Nat) : RawIs (w.drewN n) v zs := h.below ⟨rfl, rfl, rfl, Nat.le_refl _, fun _ _ => rfl⟩
theorem RawIs.form {w : World} {v : Value} {zs : List Int} (h : RawIs w v zs) : ∃ a n c, v = .slice a n c := by
  rcases h with ⟨h, _⟩ | ⟨a, cap, h1, _⟩
  · exact ⟨_, _, _, h⟩
  · exact ⟨_, _, _, h1⟩
theorem str5 (a b c d e : List UInt8) : (⟨a.toArray⟩ ++ ⟨b.toArray⟩ ++ ⟨c.toArray⟩ ++ ⟨d.toArray⟩ ++ ⟨e.toArray⟩ : ByteArray) = ⟨(a ++ b ++ c ++ d ++ e).toArray⟩ := by
  simp only [ByteArray.mk_append_mk]
theorem str3 (a b e : List UInt8) : (⟨a.toArray⟩ ++ ⟨b.toArray⟩ ++ ⟨e.toArray⟩ : ByteArray) = ⟨(a ++ b ++ e).toArray⟩ := by
  simp only [ByteArray.mk_append_mk]
theorem str4 (a b c e : List UInt8) : (⟨a.toArray⟩ ++ ⟨b.toArray⟩ ++ ⟨c.toArray⟩ ++ ⟨e.toArray⟩ : ByteArray) = ⟨(a ++ b ++ c ++ e).toArray⟩ := by
  simp only [ByteArray.mk_append_mk]
theorem no_strS (a : ByteArray) : a ++ ⟨([] : List UInt8).toArray⟩ = a := by
  apply ByteArray.ext; simp
set_option maxRecDepth 100000 in
set_option maxHeartbeats 3200000 in
theorem kspelt_any (w : World) (v : Value) (zs : List Int) (turn : Nat) (bad : Int) (ht : turn < 7) (hb1 : -1 ≤ bad) (hb2 : bad ≤ 40) (h : RawIs w v zs) :
    Calls Tryz.prog 20 #[v, .int .i64 turn, .int .i64 bad] w fun e w' => e = .returned (.tuple #[strV (Dsr.spAll (gapN zs) bad turn 7).s, .int .i64 (Dsr.spAll (gapN zs) bad turn 7).at_]) ∧ Below w.heap.size w w' := by
  obtain ⟨va, vn, vc, rfl⟩ := h.form
  have HR : Hid (RawIs w (.slice va vn vc) zs) := h
  clear h
  go_enter Tryz.func20, Tryz.ntmps20
  go_wp2_with fail
  refine (klines_any _).mono ?_
  rintro x wl ⟨rfl, hL, hB⟩
  have HL : Hid (LinesAt w.heap.size wl ∧ Below w.heap.size w wl ∧ RawIs wl (.slice va vn vc) zs) := ⟨hL, hB, HR.out.below hB⟩
  clear hL hB HR
  go_wp2_with fail
  go_loopg [9, 10, 11, 12, 13] 7 (fun g s9 s10 s11 s12 s13 wr => ∃ (i q : Nat), i + g = 7 ∧ s13 = .int .i64 i ∧ wr = wl.drewN q ∧ s9 = strV (Dsr.spAll (gapN zs) bad turn i).s ∧ s10 = .int .i64 (Dsr.spAll (gapN zs) bad turn i).at_ ∧ s11 = .int .i64 (Dsr.spAll (gapN zs) bad turn i).n ∧ s12 = .bool (Dsr.spAll (gapN zs) bad turn i).word)
  case atStart => exact ⟨0, 0, rfl, rfl, rfl, rfl, rfl, rfl, rfl⟩
  case round =>
    obtain ⟨i, q, hi, rfl, rfl, rfl, rfl, rfl, rfl⟩ := hrel
    by_cases hlt : i < 7
    · have hF := Dsr.all_fit (fun n => (gapN_ok zs n).1) (bad := bad) (turn := turn) i
      have hS : Dsr.spAll (gapN zs) bad turn (i + 1) = Dsr.spLine (gapN zs) bad (Dsr.spAll (gapN zs) bad turn i) (Dsr.lineAt ((i + turn) % 7)) := rfl
      have hj : (i + turn) % 7 < 7 := Nat.mod_lt _ (by decide)
      have hI : ∃ I, i + turn = I := ⟨_, rfl⟩
      obtain ⟨I, hI⟩ := hI
      have hw1 : IntKind.i64.wrap ((i : Int) + (turn : Int)) = (I : Int) := by
        simp [IntKind.wrap, IntKind.bits, IntKind.signed]; omega
      have hmod : ((I : Int).tmod 7) = ((I % 7 : Nat) : Int) := by rw [Int.tmod_eq_emod_of_nonneg (Int.natCast_nonneg _)]; rfl
      rw [hI] at hS hj
      generalize I % 7 = j at *
      have hjI : (j : Int) < 7 := by omega
      have ho := HL.out.1.outer j hj
      have hlo := Dsr.line_ok j hj
      generalize hst : Dsr.spAll (gapN zs) bad turn i = st at *
      have HS : Hid (Dsr.spAll (gapN zs) bad turn (i + 1) = Dsr.spLine (gapN zs) bad st (Dsr.lineAt j)) := hS
      have HF : Hid (st.fit ∧ st.n ≤ 8 * i) := hF
      have HJ : Hid ((Dsr.lineAt j).length ≤ 8 ∧ 0 < (Dsr.lineAt j).length ∧ ∀ w ∈ Dsr.lineAt j, w.length ≤ 5 ∧ w ≠ []) := hlo
      have hl8 : ((Dsr.lineAt j).length : Int) ≤ 8 := by omega
      have hiI : decide ((i : Int) < 7) = true := decide_eq_true (by omega)
      clear hS hF hlo hst hI
      go_wp2_with fail
      go_loopg [9, 10, 11, 12, 15] (Dsr.lineAt j).length (fun g s9 s10 s11 s12 s15 wr => ∃ (k q : Nat), k + g = (Dsr.lineAt j).length ∧ s15 = .int .i64 k ∧ wr = wl.drewN q ∧ s9 = strV (Dsr.spLine (gapN zs) bad st ((Dsr.lineAt j).take k)).s ∧ s10 = .int .i64 (Dsr.spLine (gapN zs) bad st ((Dsr.lineAt j).take k)).at_ ∧ s11 = .int .i64 (Dsr.spLine (gapN zs) bad st ((Dsr.lineAt j).take k)).n ∧ s12 = .bool (Dsr.spLine (gapN zs) bad st ((Dsr.lineAt j).take k)).word)
      case atStart => exact ⟨0, q, by omega, rfl, rfl, rfl, rfl, rfl, rfl⟩
      case round =>
        obtain ⟨k, q, hk, rfl, rfl, rfl, rfl, rfl, rfl⟩ := hrel
        by_cases hlt2 : k < (Dsr.lineAt j).length
        · have hF := Dsr.line_fit (fun n => (gapN_ok zs n).1) (bad := bad) ((Dsr.lineAt j).take k) st (fun x hx => (HJ.out.2.2 x (List.mem_of_mem_take hx)).1) HF.out.1
          have htk : (Dsr.lineAt j)[k]? = some (Dsr.tokAt j k) := by unfold Dsr.tokAt; simp [hlt2]
          have hS2 := Dsr.line_snoc (gapN zs) bad st _ _ _ htk
          have hin := HL.out.1.inner j k hj hlt2
          have hto := HJ.out.2.2 _ (List.mem_of_getElem? htk)
          generalize Dsr.tokAt j k = t at *
          obtain ⟨c, l, rfl⟩ : ∃ c l, t = c :: l := by
            rcases t with _ | ⟨c, l⟩
            · exact absurd rfl hto.2
            · exact ⟨c, l, rfl⟩
          have hNn : (Dsr.spLine (gapN zs) bad st ((Dsr.lineAt j).take k)).n ≤ 64 := by
            have h1 := hF.2
            have h2 := HF.out.2
            have h3 := HJ.out.1
            rw [List.length_take] at h1
            omega
          have hfit := hF.1
          clear hF htk
          generalize Dsr.spLine (gapN zs) bad st ((Dsr.lineAt j).take k) = st2 at *
          obtain ⟨S, A, N, W⟩ := st2
          have hKL := fun W' => kletter_any c l W'
          have hfit : S.length ≤ 9 * N ∧ A ≤ S.length := hfit
          have hNn : N ≤ 64 := hNn
          have hG := fun q => kgap_any (wl.drewN q) _ zs N (by omega) (HL.out.2.2.drewN q)
          have hgl := (gapN_ok zs N).1
          have hSN : Dsr.spLine (gapN zs) bad st ((Dsr.lineAt j).take (k + 1)) = ⟨S ++ gapN zs N ++ (if W && Dsr.letter c then [32] else []) ++ (if (N : Int) = bad then [61] else []) ++ (c :: l), if (N : Int) = bad then (S ++ gapN zs N ++ (if W && Dsr.letter c then [32] else [])).length else A, N + 1, Dsr.letter c⟩ := hS2
          have HNX : ∃ nx, Hid (Dsr.spLine (gapN zs) bad st ((Dsr.lineAt j).take (k + 1)) = nx) := ⟨_, rfl⟩
          obtain ⟨nx, HNX⟩ := HNX
          rw [HNX.out] at hSN
          clear hS2
          generalize Dsr.letter c = L at *
          have HKL : Hid (∀ W' : World, Calls Tryz.prog 52 #[.string ⟨(c :: l).toArray⟩] W' fun e w' => e = .returned (.bool L) ∧ w' = W') := hKL
          generalize gapN zs N = g at *
          have HG : Hid (∀ q, Calls Tryz.prog 51 #[.slice va vn vc, .int .i64 N] (wl.drewN q) fun e w' => e = .returned (strV g) ∧ ∃ m, w' = wl.drewN m) := fun q => (hG q).mono fun e w' ⟨he, m, hm⟩ => ⟨he, q + m, by rw [hm, World.drewN_drewN]⟩
          have hgI : (g.length : Int) ≤ 2 := by omega
          have hSI : (S.length : Int) ≤ 600 := by omega
          have hlI : (l.length : Int) ≤ 4 := by have := hto.1; simp at this; omega
          have hNI : (N : Int) ≤ 64 := by omega
          clear hG hto hgl hfit hKL
          by_cases hbd : (N : Int) = bad
          · rw [if_pos hbd, if_pos hbd] at hSN
            subst hbd
            rcases W with _ | _ <;> rcases L with _ | _
            · have HZ : Hid (nx = ⟨S ++ g ++ [61] ++ (c :: l), (S ++ g).length, N + 1, false⟩) := by
                show _ = _
                rw [hSN]; simp
              clear hSN
              go_wp2_with (first | (go_at_call 51; refine (HG.out _).mono ?_; rintro e w' ⟨rfl, m, rfl⟩) | (go_at_call 52; refine (HKL.out _).mono ?_; rintro e w' ⟨rfl, rfl⟩))
              go_roundg ((Dsr.lineAt j).length - (k + 1))
              case measure => omega
              case rel =>
                refine ⟨k + 1, m, by omega, by go_num, rfl, ?_, ?_, ?_, ?_⟩
                · rw [HNX.out, HZ.out]; exact congrArg Value.string (str4 S g [61] (c :: l))
                · rw [HNX.out, HZ.out]; exact congrArg (Value.int .i64) (by simp; try omega)
                · rw [HNX.out, HZ.out]; exact congrArg (Value.int .i64) (by simp)
                · rw [HNX.out, HZ.out]
            · have HZ : Hid (nx = ⟨S ++ g ++ [61] ++ (c :: l), (S ++ g).length, N + 1, true⟩) := by
                show _ = _
                rw [hSN]; simp
              clear hSN
              go_wp2_with (first | (go_at_call 51; refine (HG.out _).mono ?_; rintro e w' ⟨rfl, m, rfl⟩) | (go_at_call 52; refine (HKL.out _).mono ?_; rintro e w' ⟨rfl, rfl⟩))
              go_roundg ((Dsr.lineAt j).length - (k + 1))
              case measure => omega
              case rel =>
                refine ⟨k + 1, m, by omega, by go_num, rfl, ?_, ?_, ?_, ?_⟩
                · rw [HNX.out, HZ.out]; exact congrArg Value.string (str4 S g [61] (c :: l))
                · rw [HNX.out, HZ.out]; exact congrArg (Value.int .i64) (by simp; try omega)
                · rw [HNX.out, HZ.out]; exact congrArg (Value.int .i64) (by simp)
                · rw [HNX.out, HZ.out]
            · have HZ : Hid (nx = ⟨S ++ g ++ [61] ++ (c :: l), (S ++ g).length, N + 1, false⟩) := by
                show _ = _
                rw [hSN]; simp
              clear hSN
              go_wp2_with (first | (go_at_call 51; refine (HG.out _).mono ?_; rintro e w' ⟨rfl, m, rfl⟩) | (go_at_call 52; refine (HKL.out _).mono ?_; rintro e w' ⟨rfl, rfl⟩))
              go_roundg ((Dsr.lineAt j).length - (k + 1))
              case measure => omega
              case rel =>
                refine ⟨k + 1, m, by omega, by go_num, rfl, ?_, ?_, ?_, ?_⟩
                · rw [HNX.out, HZ.out]; exact congrArg Value.string (str4 S g [61] (c :: l))
                · rw [HNX.out, HZ.out]; exact congrArg (Value.int .i64) (by simp; try omega)
                · rw [HNX.out, HZ.out]; exact congrArg (Value.int .i64) (by simp)
                · rw [HNX.out, HZ.out]
            · have HZ : Hid (nx = ⟨S ++ g ++ [32] ++ [61] ++ (c :: l), (S ++ g ++ [32]).length, N + 1, true⟩) := by
                show _ = _
                rw [hSN]; simp
              clear hSN
              go_wp2_with (first | (go_at_call 51; refine (HG.out _).mono ?_; rintro e w' ⟨rfl, m, rfl⟩) | (go_at_call 52; refine (HKL.out _).mono ?_; rintro e w' ⟨rfl, rfl⟩))
              go_roundg ((Dsr.lineAt j).length - (k + 1))
              case measure => omega
              case rel =>
                refine ⟨k + 1, m, by omega, by go_num, rfl, ?_, ?_, ?_, ?_⟩
                · rw [HNX.out, HZ.out]; exact congrArg Value.string (str5 S g [32] [61] (c :: l))
                · rw [HNX.out, HZ.out]; exact congrArg (Value.int .i64) (by simp; try omega)
                · rw [HNX.out, HZ.out]; exact congrArg (Value.int .i64) (by simp)
                · rw [HNX.out, HZ.out]
          · rw [if_neg hbd, if_neg hbd] at hSN
            have hbn : ((N : Int) == bad) = false := beq_eq_false_iff_ne.2 hbd
            clear hbd
            rcases W with _ | _ <;> rcases L with _ | _
            · have HZ : Hid (nx = ⟨S ++ g ++ (c :: l), A, N + 1, false⟩) := by
                show _ = _
                rw [hSN]; simp
              clear hSN
              go_wp2_with (first | (go_at_call 51; refine (HG.out _).mono ?_; rintro e w' ⟨rfl, m, rfl⟩) | (go_at_call 52; refine (HKL.out _).mono ?_; rintro e w' ⟨rfl, rfl⟩))
              go_roundg ((Dsr.lineAt j).length - (k + 1))
              case measure => omega
              case rel =>
                refine ⟨k + 1, m, by omega, by go_num, rfl, ?_, ?_, ?_, ?_⟩
                · rw [HNX.out, HZ.out]; exact congrArg Value.string (str3 S g (c :: l))
                · rw [HNX.out, HZ.out]
                · rw [HNX.out, HZ.out]; exact congrArg (Value.int .i64) (by simp)
                · rw [HNX.out, HZ.out]
            · have HZ : Hid (nx = ⟨S ++ g ++ (c :: l), A, N + 1, true⟩) := by
                show _ = _
                rw [hSN]; simp
              clear hSN
              go_wp2_with (first | (go_at_call 51; refine (HG.out _).mono ?_; rintro e w' ⟨rfl, m, rfl⟩) | (go_at_call 52; refine (HKL.out _).mono ?_; rintro e w' ⟨rfl, rfl⟩))
              go_roundg ((Dsr.lineAt j).length - (k + 1))
              case measure => omega
              case rel =>
                refine ⟨k + 1, m, by omega, by go_num, rfl, ?_, ?_, ?_, ?_⟩
                · rw [HNX.out, HZ.out]; exact congrArg Value.string (str3 S g (c :: l))
                · rw [HNX.out, HZ.out]
                · rw [HNX.out, HZ.out]; exact congrArg (Value.int .i64) (by simp)
                · rw [HNX.out, HZ.out]
            · have HZ : Hid (nx = ⟨S ++ g ++ (c :: l), A, N + 1, false⟩) := by
                show _ = _
                rw [hSN]; simp
              clear hSN
              go_wp2_with (first | (go_at_call 51; refine (HG.out _).mono ?_; rintro e w' ⟨rfl, m, rfl⟩) | (go_at_call 52; refine (HKL.out _).mono ?_; rintro e w' ⟨rfl, rfl⟩))
              go_roundg ((Dsr.lineAt j).length - (k + 1))
              case measure => omega
              case rel =>
                refine ⟨k + 1, m, by omega, by go_num, rfl, ?_, ?_, ?_, ?_⟩
                · rw [HNX.out, HZ.out]; exact congrArg Value.string (str3 S g (c :: l))
                · rw [HNX.out, HZ.out]
                · rw [HNX.out, HZ.out]; exact congrArg (Value.int .i64) (by simp)
                · rw [HNX.out, HZ.out]
            · have HZ : Hid (nx = ⟨S ++ g ++ [32] ++ (c :: l), A, N + 1, true⟩) := by
                show _ = _
                rw [hSN]; simp
              clear hSN
              go_wp2_with (first | (go_at_call 51; refine (HG.out _).mono ?_; rintro e w' ⟨rfl, m, rfl⟩) | (go_at_call 52; refine (HKL.out _).mono ?_; rintro e w' ⟨rfl, rfl⟩))
              go_roundg ((Dsr.lineAt j).length - (k + 1))
              case measure => omega
              case rel =>
                refine ⟨k + 1, m, by omega, by go_num, rfl, ?_, ?_, ?_, ?_⟩
                · rw [HNX.out, HZ.out]; exact congrArg Value.string (str4 S g [32] (c :: l))
                · rw [HNX.out, HZ.out]
                · rw [HNX.out, HZ.out]; exact congrArg (Value.int .i64) (by simp)
                · rw [HNX.out, HZ.out]
        · have hk' : k = (Dsr.lineAt j).length := by omega
          subst hk'
          have HZ : Hid (Dsr.spLine (gapN zs) bad st ((Dsr.lineAt j).take (Dsr.lineAt j).length) = Dsr.spAll (gapN zs) bad turn (i + 1)) := by
            show _ = _
            rw [HS.out, List.take_length]
          rw [HZ.out]
          clear hlt2
          go_wp2_with fail
          go_roundg (7 - (i + 1))
          case measure => omega
          case rel => exact ⟨i + 1, q, by omega, by go_num, rfl, rfl, rfl, rfl, rfl⟩
    · have hi' : i = 7 := by omega
      subst hi'
      clear hlt
      go_wp2_with fail
      go_ret2
      exact ⟨rfl, HL.out.2.1.trans ⟨rfl, rfl, rfl, Nat.le_refl _, fun _ _ => rfl⟩⟩
end Go.Proofs.YtjmcokcdaddpcaaGreatDoor
/- The reader over a list of tokens: no program in it. -/
namespace Dsr
/-- The token behind the last one. -/
abbrev endT (n : Nat) : Tok := ⟨10, 0, n, []⟩
/-- These are the tokens of a text from a place on. -/
def Lst (t : List UInt8) : Nat → List Tok → Prop
  | n, [] => scan t n = endT t.length
  | n, k :: ts => scan t n = k ∧ Lst t (k.at_ + k.text.length) ts
abbrev QR := Rd × List Tok
def stepL (E : Tok) (q : QR) : QR := ({ q.1 with now := q.2.headD E }, q.2.tail)
def refuseL (E : Tok) (q : QR) (e : Nat) : QR := ({ q.1 with fErr := if q.1.fErr = 0 then e else q.1.fErr, fAt := if q.1.fErr = 0 then q.1.now.at_ else q.1.fAt, now := E }, [])
def takeIfL (E : Tok) (q : QR) (k : Nat) : QR := if q.1.now.kind = k then stepL E q else q
def takeL (E : Tok) (q : QR) (k : Nat) : QR := if q.1.now.kind = k then stepL E q else refuseL E q 2
def nameSizeL (E : Tok) (q : QR) : QR := if bigName q.1 = true then refuseL E q 3 else q
def useL (q : QR) (us : List Us) : QR := ({ q.1 with uses := us }, q.2)
def nameL (E : Tok) (q : QR) (a : Nat) : QR := takeL E (useL (nameSizeL E q) (q.1.uses ++ [⟨a, q.1.events.length, q.1.now.text, q.1.now.at_⟩])) 1
def rolesSizeL (E : Tok) (q : QR) (n : Nat) : QR := if bigRoles q.1 n = true then refuseL E q 3 else q
def rolesLoopL (E : Tok) : Nat → QR → List (List UInt8) → QR × List (List UInt8)
  | 0, q, l => (q, l)
  | f + 1, q, l =>
    if q.1.now.kind = 7 then
      rolesLoopL E f (nameL E (rolesSizeL E (stepL E q) l.length) 1) (l ++ [(rolesSizeL E (stepL E q) l.length).1.now.text])
    else (q, l)
def rolesL (E : Tok) (q : QR) : QR × List (List UInt8) := rolesLoopL E 5 (nameL E q 1) [q.1.now.text]
def markL (E : Tok) (q : QR) : QR := takeIfL E (takeIfL E (takeIfL E q 4) 5) 6
def evHeadL (E : Tok) (q : QR) : QR := takeL E (nameL E (takeL E q 2) 0) 3
def evBodyL (E : Tok) (q : QR) : QR := takeL E (markL E (rolesL E (evHeadL E q)).1) 8
def evOfL (E : Tok) (q : QR) : Ev :=
  ⟨(takeL E q 2).1.now.text, (rolesL E (evHeadL E q)).2, decide ((takeIfL E (takeIfL E (rolesL E (evHeadL E q)).1 4) 5).1.now.kind = 6), !decide ((rolesL E (evHeadL E q)).1.1.now.kind = 4), decide ((takeIfL E (rolesL E (evHeadL E q)).1 4).1.now.kind = 5)⟩
def eventL (E : Tok) (q : QR) : QR :=
  if q.1.events.length = 10 then refuseL E q 3 else ({ (evBodyL E q).1 with events := (evBodyL E q).1.events ++ [evOfL E q] }, (evBodyL E q).2)
def ruHeadL (E : Tok) (q : QR) : QR := takeL E (nameL E q 2) 9
def ruBodyL (E : Tok) (q : QR) : QR := takeL E (nameL E (ruHeadL E q) 2) 8
def ruOfL (E : Tok) (q : QR) : Rl := ⟨q.1.now.text, (ruHeadL E q).1.now.text, (nameL E q 2).1.now.rule⟩
def ruleL (E : Tok) (q : QR) : QR :=
  if q.1.rules.length = 20 then refuseL E q 3 else ({ (ruBodyL E q).1 with rules := (ruBodyL E q).1.rules ++ [ruOfL E q] }, (ruBodyL E q).2)
def linesL (E : Tok) : Nat → QR → QR
  | 0, q => q
  | f + 1, q => if q.1.now.kind = 10 then q else if q.1.now.kind = 2 then linesL E f (eventL E q) else if q.1.now.kind = 1 then linesL E f (ruleL E q) else linesL E f (refuseL E q 2)
def newL (E : Tok) (ts : List Tok) : QR := (⟨ts.headD E, [], [], [], 0, 0⟩, ts.tail)
def readL (E : Tok) (ts : List Tok) : Rd := (linesL E 32 (newL E ts)).1
/-- The list-reader stands where the reader does. -/
def At (t : List UInt8) (q : QR) (r : Rd) : Prop := q.1 = r ∧ Lst t (r.now.at_ + r.now.text.length) q.2
section
variable {t : List UInt8} {q : QR} {r : Rd}
theorem lst_end (t : List UInt8) : Lst t t.length [] := by
  show scan t t.length = _
  unfold scan
  rw [blankLen_end (Nat.le_refl _), Nat.add_zero, List.drop_eq_nil_of_le (Nat.le_refl _)]
  rfl
theorem At.step (h : At t q r) : At t (stepL (endT t.length) q) (step t r) := by
  obtain ⟨rfl, h⟩ := h
  obtain ⟨r, ts⟩ := q
  rcases ts with _ | ⟨k, ts⟩
  · refine ⟨?_, ?_⟩
    · show ({ r with now := endT t.length } : Rd) = { r with now := _ }
      rw [show scan t (r.now.at_ + r.now.text.length) = endT t.length from h]
    · show Lst t ((scan t (r.now.at_ + r.now.text.length)).at_ + (scan t (r.now.at_ + r.now.text.length)).text.length) []
      rw [show scan t (r.now.at_ + r.now.text.length) = endT t.length from h]
      exact lst_end t
  · obtain ⟨h1, h2⟩ := h
    refine ⟨?_, ?_⟩
    · show ({ r with now := k } : Rd) = { r with now := _ }
      rw [h1]
    · show Lst t ((scan t (r.now.at_ + r.now.text.length)).at_ + (scan t (r.now.at_ + r.now.text.length)).text.length) ts
      rw [h1]
      exact h2
theorem At.refuse (h : At t q r) (e : Nat) : At t (refuseL (endT t.length) q e) (refuse t r e) := by
  obtain ⟨rfl, h⟩ := h
  exact ⟨rfl, lst_end t⟩
theorem At.takeIf (h : At t q r) (k : Nat) : At t (takeIfL (endT t.length) q k) (takeIf t r k) := by
  have e := h.1
  unfold Dsr.takeIf takeIfL
  rw [e]
  split
  · exact h.step
  · exact h
theorem At.take (h : At t q r) (k : Nat) : At t (takeL (endT t.length) q k) (take t r k) := by
  have e := h.1
  unfold Dsr.take takeL
  rw [e]
  split
  · exact h.step
  · exact h.refuse 2
theorem At.nameSize (h : At t q r) : At t (nameSizeL (endT t.length) q) (nameSize t r) := by
  have e := h.1
  unfold Dsr.nameSize nameSizeL
  rw [e]
  split
  · exact h.refuse 3
  · exact h
theorem At.use (h : At t q r) (us : List Us) : At t (useL q us) { r with uses := us } := by
  obtain ⟨rfl, h⟩ := h
  exact ⟨rfl, h⟩
theorem At.name (h : At t q r) (a : Nat) : At t (nameL (endT t.length) q a) (name t r a) := by
  have e := h.1
  unfold Dsr.name nameL
  rw [e]
  exact (h.nameSize.use _).take 1
theorem At.rolesSize (h : At t q r) (n : Nat) : At t (rolesSizeL (endT t.length) q n) (rolesSize t r n) := by
  have e := h.1
  unfold Dsr.rolesSize rolesSizeL
  rw [e]
  split
  · exact h.refuse 3
  · exact h
end
theorem At.rolesLoop {t : List UInt8} : ∀ (f : Nat) {q : QR} {r : Rd} (l : List (List UInt8)), At t q r → At t (rolesLoopL (endT t.length) f q l).1 (rolesLoop t f r l).1 ∧ (rolesLoopL (endT t.length) f q l).2 = (rolesLoop t f r l).2
  | 0, q, r, l, h => ⟨h, rfl⟩
  | f + 1, q, r, l, h => by
    unfold Dsr.rolesLoop rolesLoopL
    rw [h.1]
    split
    · have h2 := h.step.rolesSize l.length
      have e := h2.1
      rw [e]
      exact At.rolesLoop f _ (h2.name 1)
    · exact ⟨h, rfl⟩
section
variable {t : List UInt8} {q : QR} {r : Rd}
theorem At.roles (h : At t q r) : At t (rolesL (endT t.length) q).1 (roles t r).1 ∧ (rolesL (endT t.length) q).2 = (roles t r).2 := by
  unfold Dsr.roles rolesL
  rw [h.1]
  exact At.rolesLoop 5 _ (h.name 1)
theorem At.mark (h : At t q r) : At t (markL (endT t.length) q) (markRd t r) := ((h.takeIf 4).takeIf 5).takeIf 6
theorem At.evHead (h : At t q r) : At t (evHeadL (endT t.length) q) (evHead t r) := ((h.take 2).name 0).take 3
theorem At.evBody (h : At t q r) : At t (evBodyL (endT t.length) q) (evBody t r) := h.evHead.roles.1.mark.take 8
theorem At.evOf (h : At t q r) : evOfL (endT t.length) q = evOf t r := by
  have h1 := h.evHead.roles
  unfold evOfL Dsr.evOf markDone markIn markDue
  rw [(h.take 2).1, h1.2, ((h1.1.takeIf 4).takeIf 5).1, (h1.1.takeIf 4).1, h1.1.1]
theorem At.event (h : At t q r) : At t (eventL (endT t.length) q) (event t r) := by
  unfold Dsr.event eventL
  rw [h.1]
  split
  · exact h.refuse 3
  · have hb := h.evBody
    rw [h.evOf]
    generalize evBodyL (endT t.length) q = x at *
    generalize Dsr.evBody t r = y at *
    obtain ⟨rfl, hb⟩ := hb
    exact ⟨rfl, hb⟩
theorem At.ruHead (h : At t q r) : At t (ruHeadL (endT t.length) q) (ruHead t r) := (h.name 2).take 9
theorem At.ruBody (h : At t q r) : At t (ruBodyL (endT t.length) q) (ruBody t r) := (h.ruHead.name 2).take 8
theorem At.ruOf (h : At t q r) : ruOfL (endT t.length) q = ruOf t r := by
  unfold ruOfL Dsr.ruOf
  rw [h.1, h.ruHead.1, (h.name 2).1]
theorem At.rule (h : At t q r) : At t (ruleL (endT t.length) q) (rule t r) := by
  unfold Dsr.rule ruleL
  rw [h.1]
  split
  · exact h.refuse 3
  · have hb := h.ruBody
    rw [h.ruOf]
    generalize ruBodyL (endT t.length) q = x at *
    generalize Dsr.ruBody t r = y at *
    obtain ⟨rfl, hb⟩ := hb
    exact ⟨rfl, hb⟩
end
theorem At.lines {t : List UInt8} : ∀ (f : Nat) {q : QR} {r : Rd}, At t q r → At t (linesL (endT t.length) f q) (lines t f r)
  | 0, _, _, h => h
  | f + 1, q, r, h => by
    unfold Dsr.lines linesL
    rw [h.1]
    split
    · exact h
    · split
      · exact At.lines f h.event
      · split
        · exact At.lines f h.rule
        · exact At.lines f (h.refuse 2)
/-- The reader of a text is the reader of its tokens. -/
theorem readR_eq {t : List UInt8} {ts : List Tok} (h : Lst t 0 ts) : readR t = readL (endT t.length) ts := by
  have h0 : At t (newL (endT t.length) ts) (newRd t) := by
    rcases ts with _ | ⟨k, ts⟩
    · have h : scan t 0 = endT t.length := h
      refine ⟨?_, ?_⟩
      · unfold newL newRd; rw [h]; rfl
      · unfold newRd; rw [h]; exact lst_end t
    · obtain ⟨h1, h2⟩ := h
      refine ⟨?_, ?_⟩
      · unfold newL newRd; rw [h1]; rfl
      · unfold newRd; rw [h1]; exact h2
  exact (At.lines 32 h0).1.symm
end Dsr
/- The tokens of the spelt texts: no program in it. -/
namespace Dsr
def kindOf (w : List UInt8) : Nat := if wordB w then wordKind w else if signOf w < 5 then 9 else oneKind (w.take 1)
def ruleOf (w : List UInt8) : Nat := if wordB w then 0 else if signOf w < 5 then signOf w else 0
/-- Tokens by their words, their places by their numbers. -/
def withPos (p : Nat → Nat) : Nat → List (List UInt8) → List Tok
  | _, [] => []
  | i, w :: ws => ⟨kindOf w, ruleOf w, p i, w⟩ :: withPos p (i + 1) ws
/-- All tokens, the lines turned. -/
def allT (turn : Nat) : List (List UInt8) := (List.range 7).flatMap fun i => lineAt ((i + turn) % 7)
def insT (turn bad : Nat) : List (List UInt8) := (allT turn).take bad ++ [61] :: (allT turn).drop bad
theorem stray_all (n : Nat) (p : Nat → Nat) : ((List.range 7).map fun turn => (List.range 35).map fun bad => ((readL (endT n) (withPos p 0 (insT turn bad))).fErr, (readL (endT n) (withPos p 0 (insT turn bad))).fAt)) = (List.range 7).map fun _ => (List.range 35).map fun bad => (2, p bad) := by kernel_rfl
theorem stray_at (n : Nat) (p : Nat → Nat) (turn bad : Nat) (ht : turn < 7) (hb : bad < 35) : (readL (endT n) (withPos p 0 (insT turn bad))).fErr = 2 ∧ (readL (endT n) (withPos p 0 (insT turn bad))).fAt = p bad := by
  have h := congrArg (fun l => l[turn]?.bind fun m : List (Nat × Nat) => m[bad]?) (stray_all n p)
  simp [ht, hb] at h
  exact h
def evF : Ev := ⟨[102, 105, 108, 101], [[99, 108, 101, 114, 107], [98, 111, 115, 115]], false, true, true⟩
def evS : Ev := ⟨[115, 105, 103, 110], [[98, 111, 115, 115]], true, false, false⟩
def ru1 : Rl := ⟨[102, 105, 108, 101], [115, 105, 103, 110], 3⟩
def ru2 : Rl := ⟨[102, 105, 108, 101], [115, 105, 103, 110], 0⟩
def ru3 : Rl := ⟨[115, 105, 103, 110], [102, 105, 108, 101], 2⟩
def ru5 : Rl := ⟨[115, 105, 103, 110], [115, 105, 103, 110], 1⟩
theorem good_err (n : Nat) (p : Nat → Nat) (turn : Nat) (ht : turn < 7) : (readL (endT n) (withPos p 0 (allT turn))).fErr = 0 := by
  have h : ((List.range 7).map fun turn => (readL (endT n) (withPos p 0 (allT turn))).fErr) = (List.range 7).map fun _ => 0 := by kernel_rfl
  have h := congrArg (fun l => l[turn]?) h
  simpa [ht] using h
theorem good_name (n : Nat) (p : Nat → Nat) (turn : Nat) (ht : turn < 7) : wrongName (readL (endT n) (withPos p 0 (allT turn))).uses = none := by
  have h : ((List.range 7).map fun turn => wrongName (readL (endT n) (withPos p 0 (allT turn))).uses) = (List.range 7).map fun _ => none := by kernel_rfl
  have h := congrArg (fun l => l[turn]?) h
  simpa [ht] using h
theorem good_events (n : Nat) (p : Nat → Nat) (turn : Nat) (ht : turn < 7) : (readL (endT n) (withPos p 0 (allT turn))).events = if turn = 1 then [evS, evF] else [evF, evS] := by
  have h : ((List.range 7).map fun turn => (readL (endT n) (withPos p 0 (allT turn))).events) = (List.range 7).map fun turn => if turn = 1 then [evS, evF] else [evF, evS] := by kernel_rfl
  have h := congrArg (fun l => l[turn]?) h
  simpa [ht] using h
theorem good_rules (n : Nat) (p : Nat → Nat) (turn : Nat) (ht : turn < 7) : (readL (endT n) (withPos p 0 (allT turn))).rules = [ru1, ru2, ru3, ru1, ru5].drop (turn - 2) ++ [ru1, ru2, ru3, ru1, ru5].take (turn - 2) := by
  have h : ((List.range 7).map fun turn => (readL (endT n) (withPos p 0 (allT turn))).rules) = (List.range 7).map fun turn => [ru1, ru2, ru3, ru1, ru5].drop (turn - 2) ++ [ru1, ru2, ru3, ru1, ru5].take (turn - 2) := by kernel_rfl
  have h := congrArg (fun l => l[turn]?) h
  simpa [ht] using h
theorem good_perm (n : Nat) (p : Nat → Nat) (turn : Nat) (ht : turn < 7) : [evF, evS].Perm (readL (endT n) (withPos p 0 (allT turn))).events ∧ [ru2, ru1, ru1, ru3, ru5].Perm (readL (endT n) (withPos p 0 (allT turn))).rules := by
  rw [good_events n p turn ht, good_rules n p turn ht]
  refine ⟨?_, ?_⟩
  · split
    · exact List.Perm.swap _ _ _
    · exact List.Perm.refl _
  · have h1 : [ru1, ru2, ru3, ru1, ru5].Perm ([ru1, ru2, ru3, ru1, ru5].drop (turn - 2) ++ [ru1, ru2, ru3, ru1, ru5].take (turn - 2)) := by
      conv => lhs; rw [← List.take_append_drop (turn - 2) [ru1, ru2, ru3, ru1, ru5]]
      exact List.perm_append_comm
    exact ((List.Perm.swap ru1 ru2 [ru1, ru3, ru5]).trans (.cons _ (.cons _ (.swap ru3 ru1 [ru5])))).trans h1
/-- Blanks and a token, one behind the other. -/
abbrev Prs := List (List UInt8 × List UInt8)
def flat (P : Prs) : List UInt8 := P.flatMap fun x => x.1 ++ x.2
def toksOf : Prs → Nat → List Tok
  | [], _ => []
  | x :: P, n => ⟨kindOf x.2, ruleOf x.2, n + x.1.length, x.2⟩ :: toksOf P (n + x.1.length + x.2.length)
/-- A token's bytes. -/
def TkB (w : List UInt8) : Prop := (wordB w = true ∧ ∀ c ∈ w, wordy c = true) ∨ (∃ k, k < 5 ∧ w = signs.getD k []) ∨ w = [44] ∨ w = [59] ∨ w = [61]
def GoodP : Bool → Prs → Prop
  | _, [] => True
  | b, x :: P => (∀ c ∈ x.1, blank c = true) ∧ TkB x.2 ∧ (b = true → wordB x.2 = true → x.1 ≠ []) ∧ GoodP (wordB x.2) P
theorem blankLen_app : ∀ (g l : List UInt8), (∀ c ∈ g, blank c = true) → (∀ c m, l = c :: m → blank c = false) → blankLen (g ++ l) = g.length
  | [], [], _, _ => rfl
  | [], c :: m, _, h => by simp [blankLen, h c m rfl]
  | c :: g, l, hg, h => by
    rw [List.cons_append, blankLen, if_pos (hg c (by simp)), blankLen_app g l (fun x hx => hg x (by simp [hx])) h]; rfl
theorem wordLen_app : ∀ (g l : List UInt8), (∀ c ∈ g, wordy c = true) → (∀ c m, l = c :: m → wordy c = false) → wordLen (g ++ l) = g.length
  | [], [], _, _ => rfl
  | [], c :: m, _, h => by simp [wordLen, h c m rfl]
  | c :: g, l, hg, h => by
    rw [List.cons_append, wordLen, if_pos (hg c (by simp)), wordLen_app g l (fun x hx => hg x (by simp [hx])) h]; rfl
theorem letter_blank {c : UInt8} (h : letter c = true) : blank c = false := by
  unfold letter at h; unfold blank
  simp at h ⊢; omega
theorem blank_wordy {c : UInt8} (h : blank c = true) : wordy c = false := by
  unfold blank at h; unfold wordy letter digit
  simp at h ⊢; omega
theorem tk_head {w : List UInt8} (h : TkB w) : ∃ c m, w = c :: m ∧ blank c = false ∧ (wordB w = false → wordy c = false) := by
  rcases h with ⟨h1, h2⟩ | ⟨k, hk, rfl⟩ | rfl | rfl | rfl
  · rcases w with _ | ⟨c, m⟩
    · simp [wordB] at h1
    · exact ⟨c, m, rfl, letter_blank h1, fun h => by rw [h1] at h; cases h⟩
  · rcases k with _ | _ | _ | _ | _ | k
    · exact ⟨_, _, rfl, by decide, fun _ => by decide⟩
    · exact ⟨_, _, rfl, by decide, fun _ => by decide⟩
    · exact ⟨_, _, rfl, by decide, fun _ => by decide⟩
    · exact ⟨_, _, rfl, by decide, fun _ => by decide⟩
    · exact ⟨_, _, rfl, by decide, fun _ => by decide⟩
    · omega
  · exact ⟨_, _, rfl, by decide, fun _ => by decide⟩
  · exact ⟨_, _, rfl, by decide, fun _ => by decide⟩
  · exact ⟨_, _, rfl, by decide, fun _ => by decide⟩
theorem scanAt_tk {w rest : List UInt8} (n : Nat) (h : TkB w) (hr : wordB w = true → ∀ c m, rest = c :: m → wordy c = false) : scanAt (w ++ rest) n = ⟨kindOf w, ruleOf w, n, w⟩ := by
  rcases h with ⟨h1, h2⟩ | ⟨k, hk, rfl⟩ | rfl | rfl | rfl
  · rcases w with _ | ⟨c, m⟩
    · simp [wordB] at h1
    · have hl := wordLen_app (c :: m) rest h2 (hr h1)
      rw [List.cons_append]
      show (if letter c = true then scanWord (c :: m ++ rest) n else scanSign (c :: m ++ rest) n) = _
      rw [if_pos (show letter c = true from h1)]
      unfold scanWord kindOf ruleOf
      rw [hl, List.take_left, if_pos h1, if_pos h1]
  · rcases k with _ | _ | _ | _ | _ | k
    · rfl
    · rfl
    · rfl
    · rfl
    · rfl
    · omega
  · rfl
  · rfl
  · rfl
theorem flat_cons (x : List UInt8 × List UInt8) (P : Prs) : flat (x :: P) = x.1 ++ (x.2 ++ flat P) := by simp [flat]
theorem lst_flat (t : List UInt8) : ∀ (P : Prs) (b : Bool) (n : Nat), GoodP b P → t.drop n = flat P → n + (flat P).length = t.length → Lst t n (toksOf P n)
  | [], _, n, _, hd, hl => by
    have : n = t.length := by simpa [flat] using hl
    subst this
    exact lst_end t
  | x :: P, b, n, hg, hd, hl => by
    obtain ⟨h1, h2, h3, h4⟩ := hg
    rw [flat_cons] at hd hl
    obtain ⟨c, m, hw, hb, hn⟩ := tk_head h2
    have hbl : blankLen (t.drop n) = x.1.length := by
      rw [hd]
      exact blankLen_app _ _ h1 (fun c' m' e => by rw [hw] at e; cases e; exact hb)
    have hd2 : t.drop (n + x.1.length) = x.2 ++ flat P := by rw [← List.drop_drop, hd, List.drop_left]
    have hd3 : t.drop (n + x.1.length + x.2.length) = flat P := by rw [← List.drop_drop, hd2, List.drop_left]
    refine ⟨?_, lst_flat t P (wordB x.2) (n + x.1.length + x.2.length) h4 hd3 (by simp only [List.length_append] at hl; omega)⟩
    unfold scan
    rw [hbl, hd2]
    refine scanAt_tk _ h2 ?_
    intro hwb c' m' e
    rcases P with _ | ⟨y, P⟩
    · simp [flat] at e
    · obtain ⟨g1, g2, g3, _⟩ := h4
      rw [flat_cons] at e
      rcases hy : y.1 with _ | ⟨d, gd⟩
      · rw [hy] at e
        obtain ⟨c2, m2, hw2, hb2, hn2⟩ := tk_head g2
        rw [hw2] at e
        cases e
        refine hn2 ?_
        rcases hwy : wordB y.2 with _ | _
        · rfl
        · exact absurd hy (g3 hwb hwy)
      · rw [hy] at e
        cases e
        exact blank_wordy (g1 _ (by rw [hy]; simp))
/-- Their places, by their numbers. -/
def posOf (P : Prs) (n : Nat) (i : Nat) : Nat := n + (flat (P.take i)).length + ((P[i]?).map (fun x => x.1.length)).getD 0
theorem withPos_congr (p q : Nat → Nat) : ∀ (ws : List (List UInt8)) (i j : Nat), (∀ k, k < ws.length → p (i + k) = q (j + k)) → withPos p i ws = withPos q j ws
  | [], _, _, _ => rfl
  | w :: ws, i, j, h => by
    unfold withPos
    rw [withPos_congr p q ws (i + 1) (j + 1) (fun k hk => by have := h (k + 1) (by simp; omega); rw [Nat.add_assoc, Nat.add_comm 1 k, Nat.add_assoc, Nat.add_comm 1 k]; exact this)]
    have := h 0 (by simp)
    rw [Nat.add_zero, Nat.add_zero] at this
    rw [this]
theorem toksOf_pos : ∀ (P : Prs) (n : Nat), toksOf P n = withPos (posOf P n) 0 (P.map (·.2))
  | [], _ => rfl
  | x :: P, n => by
    show _ = _ :: withPos (posOf (x :: P) n) (0 + 1) (P.map (·.2))
    rw [toksOf, toksOf_pos P]
    have h0 : n + x.1.length = posOf (x :: P) n 0 := by simp [posOf, flat]
    rw [h0]
    congr 1
    refine withPos_congr _ _ _ _ _ (fun k _ => ?_)
    rw [← h0]
    unfold posOf
    rw [show 0 + 1 + k = k + 1 by omega, Nat.zero_add]
    simp [flat]
    omega
/-- The pairs of a spelt text. -/
def sepOf (wd : Bool) (w : List UInt8) : List UInt8 := if wd && wordB w then [32] else []
def prs (g : Nat → List UInt8) (bad : Int) : Nat → Bool → List (List UInt8) → Prs
  | _, _, [] => []
  | n, wd, w :: ts => (if (n : Int) = bad then [(g n ++ sepOf wd w, [61]), ([], w)] else [(g n ++ sepOf wd w, w)]) ++ prs g bad (n + 1) (wordB w) ts
theorem prs_cons (g : Nat → List UInt8) (bad : Int) (n : Nat) (wd : Bool) (w : List UInt8) (ts : List (List UInt8)) : prs g bad n wd (w :: ts) = (if (n : Int) = bad then [(g n ++ sepOf wd w, [61]), ([], w)] else [(g n ++ sepOf wd w, w)]) ++ prs g bad (n + 1) (wordB w) ts := rfl
theorem sep_blank {wd : Bool} {w : List UInt8} : ∀ c ∈ sepOf wd w, blank c = true := by
  unfold sepOf
  split
  · intro c hc; simp at hc; subst hc; rfl
  · simp
theorem prs_good {g : Nat → List UInt8} (hg : ∀ n, ∀ c ∈ g n, blank c = true) {bad : Int} : ∀ (ts : List (List UInt8)) (n : Nat) (wd : Bool), (∀ w ∈ ts, TkB w) → GoodP wd (prs g bad n wd ts)
  | [], _, _, _ => trivial
  | w :: ts, n, wd, h => by
    have hb : ∀ c ∈ g n ++ sepOf wd w, blank c = true := fun c hc => by
      rcases List.mem_append.1 hc with hc | hc
      · exact hg n c hc
      · exact sep_blank c hc
    have ih := prs_good hg (bad := bad) ts (n + 1) (wordB w) (fun x hx => h x (by simp [hx]))
    unfold prs
    split
    · refine ⟨hb, .inr (.inr (.inr (.inr rfl))), fun _ h => (by simp [wordB, letter] at h), ?_, h w (by simp), fun h => (by simp [wordB, letter] at h), ih⟩
      simp
    · refine ⟨hb, h w (by simp), fun h1 h2 => ?_, ih⟩
      simp only at h2
      simp [sepOf, h1, h2]
theorem line_eq (g : Nat → List UInt8) (bad : Int) : ∀ (ts : List (List UInt8)) (st : SS), (spLine g bad st ts).s = st.s ++ flat (prs g bad st.n st.word ts)
  | [], st => by simp [spLine, prs, flat]
  | w :: ts, st => by
    have ih := line_eq g bad ts (spStep g bad st w)
    show (spLine g bad (spStep g bad st w) ts).s = _
    rw [ih, prs_cons]
    show (st.s ++ g st.n ++ sepOf st.word w ++ (if (st.n : Int) = bad then [61] else []) ++ w) ++ flat (prs g bad (st.n + 1) (wordB w) ts) = _
    split <;> simp [flat]
theorem line_past (g : Nat → List UInt8) (bad : Int) : ∀ (ts : List (List UInt8)) (st : SS), bad < st.n → (spLine g bad st ts).at_ = st.at_
  | [], st, _ => rfl
  | w :: ts, st, h => by
    have ih := line_past g bad ts (spStep g bad st w) (by show bad < ((st.n + 1 : Nat) : Int); omega)
    show (spLine g bad (spStep g bad st w) ts).at_ = _
    rw [ih]
    show (if (st.n : Int) = bad then _ else st.at_) = st.at_
    rw [if_neg (by omega)]
theorem line_at (g : Nat → List UInt8) (bad : Nat) : ∀ (ts : List (List UInt8)) (st : SS), st.n ≤ bad → bad < st.n + ts.length → (spLine g bad st ts).at_ = posOf (prs g bad st.n st.word ts) st.s.length (bad - st.n)
  | [], st, h1, h2 => by simp at h2; omega
  | w :: ts, st, h1, h2 => by
    show (spLine g bad (spStep g bad st w) ts).at_ = _
    by_cases hb : (st.n : Int) = (bad : Int)
    · rw [line_past g bad ts _ (by show (bad : Int) < ((st.n + 1 : Nat) : Int); omega)]
      have : bad - st.n = 0 := by omega
      rw [this, prs_cons]
      show (if (st.n : Int) = bad then (st.s ++ g st.n ++ sepOf st.word w).length else _) = _
      rw [if_pos hb, if_pos hb]
      simp [flat, posOf]
    · have ih := line_at g bad ts (spStep g bad st w) (by show st.n + 1 ≤ bad; omega) (by show bad < st.n + 1 + ts.length; simp at h2; omega)
      rw [ih]
      have e : bad - st.n = (bad - (st.n + 1)) + 1 := by omega
      rw [prs_cons, if_neg hb, e]
      show posOf (prs g bad (st.n + 1) (wordB w) ts) (st.s ++ g st.n ++ sepOf st.word w ++ (if (st.n : Int) = bad then [61] else []) ++ w).length (bad - (st.n + 1)) = _
      rw [if_neg hb]
      generalize bad - (st.n + 1) = k
      generalize prs g bad (st.n + 1) (wordB w) ts = P
      simp [flat, posOf]
      omega
theorem prs_words (g : Nat → List UInt8) (bad : Nat) : ∀ (ts : List (List UInt8)) (n : Nat) (wd : Bool), n ≤ bad → bad < n + ts.length → (prs g bad n wd ts).map (·.2) = ts.take (bad - n) ++ [61] :: ts.drop (bad - n)
  | [], n, wd, h1, h2 => by simp at h2; omega
  | w :: ts, n, wd, h1, h2 => by
    have past : ∀ (ts : List (List UInt8)) (m : Nat) (wd : Bool), bad < m → (prs g bad m wd ts).map (·.2) = ts := by
      intro ts
      induction ts with
      | nil => intros; rfl
      | cons w ts ih =>
        intro m wd hm
        unfold prs
        rw [if_neg (by omega)]
        simp [ih (m + 1) (wordB w) (by omega)]
    unfold prs
    by_cases hb : (n : Int) = (bad : Int)
    · rw [if_pos hb]
      have : bad - n = 0 := by omega
      rw [this]
      simp [past ts (n + 1) (wordB w) (by omega)]
    · rw [if_neg hb]
      have e : bad - n = (bad - (n + 1)) + 1 := by omega
      have ih := prs_words g bad ts (n + 1) (wordB w) (by omega) (by simp at h2; omega)
      rw [e]
      simp [ih]
theorem prs_none (g : Nat → List UInt8) : ∀ (ts : List (List UInt8)) (n : Nat) (wd : Bool), (prs g (-1) n wd ts).map (·.2) = ts
  | [], _, _ => rfl
  | w :: ts, n, wd => by
    unfold prs
    rw [if_neg (by omega)]
    simp [prs_none g ts (n + 1) (wordB w)]
theorem spAll_eq (g : Nat → List UInt8) (bad : Int) (turn : Nat) : spAll g bad turn 7 = spLine g bad ⟨[], 0, 0, false⟩ (allT turn) := by
  have h : ∀ i, spAll g bad turn i = spLine g bad ⟨[], 0, 0, false⟩ ((List.range i).flatMap fun i => lineAt ((i + turn) % 7)) := by
    intro i
    induction i with
    | zero => rfl
    | succ i ih =>
      rw [List.range_succ, List.flatMap_append]
      unfold spLine at ih ⊢
      rw [List.foldl_append, ← ih]
      simp [spAll, spLine]
  exact h 7
theorem tk_of_line : ∀ j, j < 7 → ∀ w ∈ lineAt j, (wordB w = true ∧ ∀ c ∈ w, wordy c = true) ∨ w ∈ signs ∨ w = [44] ∨ w = [59] := by decide +kernel
theorem allT_tk (turn : Nat) : ∀ w ∈ allT turn, TkB w := by
  intro w hw
  obtain ⟨i, _, h⟩ := List.mem_flatMap.1 hw
  rcases tk_of_line _ (Nat.mod_lt _ (by decide)) w h with h | h | h | h
  · exact .inl h
  · refine .inr (.inl ?_)
    obtain ⟨k, hk, e⟩ := List.getElem_of_mem h
    exact ⟨k, hk, by rw [← e]; simp [hk]⟩
  · exact .inr (.inr (.inl h))
  · exact .inr (.inr (.inr (.inl h)))
theorem allT_len : ∀ turn, turn < 7 → (allT turn).length = 35 := by decide +kernel
/-- The good text is read as its tokens. -/
theorem good_read {g : Nat → List UInt8} (hg : ∀ n, ∀ c ∈ g n, blank c = true) (turn : Nat) : ∃ p, readR (spAll g (-1) turn 7).s = readL (endT (spAll g (-1) turn 7).s.length) (withPos p 0 (allT turn)) := by
  have e : (spAll g (-1) turn 7).s = flat (prs g (-1) 0 false (allT turn)) := by rw [spAll_eq, line_eq]; rfl
  refine ⟨posOf (prs g (-1) 0 false (allT turn)) 0, ?_⟩
  rw [readR_eq (lst_flat _ (prs g (-1) 0 false (allT turn)) false 0 (prs_good hg _ _ _ (allT_tk turn)) (by rw [e]; rfl) (by rw [e]; omega)), toksOf_pos, prs_none]
/-- The text with the stray byte. -/
theorem bad_read {g : Nat → List UInt8} (hg : ∀ n, ∀ c ∈ g n, blank c = true) (turn bad : Nat) (ht : turn < 7) (hb : bad < 35) :
    (readR (spAll g bad turn 7).s).fErr = 2 ∧ (readR (spAll g bad turn 7).s).fAt = (spAll g bad turn 7).at_ := by
  have e : (spAll g bad turn 7).s = flat (prs g bad 0 false (allT turn)) := by rw [spAll_eq, line_eq]; rfl
  have hat : (spAll g bad turn 7).at_ = posOf (prs g bad 0 false (allT turn)) 0 bad := by
    rw [spAll_eq]
    exact line_at g bad (allT turn) ⟨[], 0, 0, false⟩ (Nat.zero_le _) (by rw [allT_len turn ht]; show bad < 0 + 35; omega)
  rw [readR_eq (lst_flat _ (prs g bad 0 false (allT turn)) false 0 (prs_good hg _ _ _ (allT_tk turn)) (by rw [e]; rfl) (by rw [e]; omega)), toksOf_pos, prs_words g bad (allT turn) 0 false (Nat.zero_le _) (by rw [allT_len turn ht]; omega), hat]
  exact stray_at _ _ turn bad ht hb
end Dsr
set_option linter.unusedVariables false
set_option linter.unusedSimpArgs false
namespace Go.Proofs.YtjmcokcdaddpcaaGreatDoor
open Go.RowKit
/-- A graph's order is one. -/
theorem ord_one {r : Dsr.Rd} {es : List Dsr.Ev} {rs : List Dsr.Rl} (h : OrdG r es rs) {ce : List Dsr.Ev} {cr : List Dsr.Rl} (hpe : ce.Perm r.events) (hse : ce.Pairwise (fun a b => 0 ≤ Dsr.cmpB b.name a.name))
    (hnd : ∀ a ∈ r.events, ∀ b ∈ r.events, a.name = b.name → a = b) (hpr : cr.Perm r.rules) (hsr : cr.Pairwise (fun a b => 0 ≤ cmpRl b a)) :
    es = ce.map (fun e => { e with roles := e.roles.mergeSort fun x y => decide (x ≤ y) }) ∧ rs = Dsr.compact eqRl cr := by
  obtain ⟨es0, rs0, h1, h2, rfl, h4, h5, rfl⟩ := h
  have e1 : es0 = ce := List.Perm.eq_of_pairwise (le := fun a b : Dsr.Ev => 0 ≤ Dsr.cmpB b.name a.name) (fun a b ha hb hab hba => by
    have := Dsr.cmpB_swap a.name b.name
    exact hnd a (h1.mem_iff.1 ha) b (hpe.mem_iff.1 hb) (Dsr.cmpB_eq (by omega))) h2 hse (h1.trans hpe.symm)
  have e2 : rs0 = cr := List.Perm.eq_of_pairwise (le := fun a b : Dsr.Rl => 0 ≤ cmpRl b a) (fun a b ha hb hab hba => by
    rcases ltR_tri a b with h | h | h
    · have := (cmpRl_neg a b).2 h; omega
    · exact h
    · have := (cmpRl_neg b a).2 h; omega) h5 hsr (h4.trans hpr.symm)
  rw [e1, e2]
  exact ⟨rfl, rfl⟩
def wantT : List UInt8 := [101, 118, 101, 110, 116, 32, 102, 105, 108, 101, 32, 98, 121, 32, 98, 111, 115, 115, 44, 32, 99, 108, 101, 114, 107, 32, 100, 117, 101, 59, 10, 101, 118, 101, 110, 116, 32, 115, 105, 103, 110, 32, 98, 121, 32, 98, 111, 115, 115, 32, 111, 117, 116, 32, 100, 111, 110, 101, 59, 10, 102, 105, 108, 101, 32, 45, 62, 42, 32, 115, 105, 103, 110, 59, 10, 102, 105, 108, 101, 32, 45, 62, 43, 32, 115, 105, 103, 110, 59, 10, 115, 105, 103, 110, 32, 42, 45, 62, 32, 102, 105, 108, 101, 59, 10, 115, 105, 103, 110, 32, 45, 62, 60, 62, 32, 115, 105, 103, 110, 59, 10]
theorem want_short : ¬ 400 < wantT.length := by decide +kernel
theorem sort_cb : ([[99, 108, 101, 114, 107], [98, 111, 115, 115]] : List (List UInt8)).mergeSort (fun x y => decide (x ≤ y)) = [[98, 111, 115, 115], [99, 108, 101, 114, 107]] := by
  simp [List.mergeSort, List.MergeSort.Internal.splitInTwo, List.merge]
  decide
theorem sort_bc : ([[98, 111, 115, 115], [99, 108, 101, 114, 107]] : List (List UInt8)).mergeSort (fun x y => decide (x ≤ y)) = [[98, 111, 115, 115], [99, 108, 101, 114, 107]] := by
  simp [List.mergeSort, List.MergeSort.Internal.splitInTwo, List.merge]
  decide
theorem sorted_rules : [Dsr.ru2, Dsr.ru1, Dsr.ru1, Dsr.ru3, Dsr.ru5].Pairwise (fun a b => 0 ≤ cmpRl b a) := by
  simp [List.pairwise_cons, cmpRl, or3, cmpS_eq]
  decide
theorem nd_fs {r : Dsr.Rd} {F S : Dsr.Ev} (h : [F, S].Perm r.events) (hn : F.name ≠ S.name) : ∀ a ∈ r.events, ∀ b ∈ r.events, a.name = b.name → a = b := by
  intro a ha b hb e
  have ha := h.mem_iff.2 ha
  have hb := h.mem_iff.2 hb
  simp at ha hb
  rcases ha with rfl | rfl <;> rcases hb with rfl | rfl
  · rfl
  · exact absurd e hn
  · exact absurd e.symm hn
  · rfl
theorem text_want : Dsr.text ([Dsr.evF, Dsr.evS].map (fun e => { e with roles := e.roles.mergeSort fun x y => decide (x ≤ y) })) (Dsr.compact eqRl [Dsr.ru2, Dsr.ru1, Dsr.ru1, Dsr.ru3, Dsr.ru5]) = wantT := by
  simp only [List.map_cons, List.map_nil, Dsr.evF, Dsr.evS]
  rw [sort_cb, List.mergeSort_singleton]
  decide
theorem sorted_evs : [Dsr.evF, Dsr.evS].Pairwise (fun a b => 0 ≤ Dsr.cmpB b.name a.name) := by
  simp only [List.pairwise_cons]
  decide
/-- What a good text of the spelt graph is printed as. -/
theorem print_good {g : Nat → List UInt8} (hg : ∀ n, (g n).length ≤ 2 ∧ ∀ c ∈ g n, Dsr.blank c = true) {turn : Nat} (ht : turn < 7) {out : List UInt8} {fe fa : Nat} (h : PrintP (Dsr.spAll g (-1) turn 7).s out fe fa) : out = wantT ∧ fe = 0 ∧ fa = 0 := by
  obtain ⟨p, hp⟩ := Dsr.good_read (fun n => (hg n).2) turn
  have hl : (Dsr.spAll g (-1) turn 7).s.length ≤ 400 := by
    have h1 := Dsr.all_fit (fun n => (hg n).1) (bad := -1) (turn := turn) 7
    have h2 := h1.1.1
    have h3 : (Dsr.spAll g (-1) turn 7).n = 35 := by
      rw [Dsr.spAll_eq, (Dsr.line_fit (fun n => (hg n).1) (bad := -1) (Dsr.allT turn) ⟨[], 0, 0, false⟩ (fun w hw => by
        obtain ⟨i, _, hi⟩ := List.mem_flatMap.1 hw
        exact ((Dsr.line_ok _ (Nat.mod_lt _ (by decide))).2.2 w hi).1) ⟨Nat.zero_le _, Nat.le_refl _⟩).2, Dsr.allT_len turn ht]
    omega
  have he : errOf (Dsr.spAll g (-1) turn 7).s = none := by
    unfold errOf
    rw [if_neg (by omega), hp, Dsr.good_err _ p turn ht, if_neg (by simp), Dsr.good_name _ p turn ht]
    rfl
  have hpm := Dsr.good_perm (Dsr.spAll g (-1) turn 7).s.length p turn ht
  rw [← hp] at hpm
  have key : ∀ es rs, OrdG (Dsr.readR (Dsr.spAll g (-1) turn 7).s) es rs → Dsr.text es rs = wantT := by
    intro es rs ho
    obtain ⟨e1, e2⟩ := ord_one ho hpm.1 sorted_evs (nd_fs hpm.1 (by decide)) hpm.2 sorted_rules
    rw [e1, e2]
    exact text_want
  rcases h with ⟨h1, _⟩ | ⟨_, es, rs, ho, ⟨h1, _⟩ | ⟨_, h2, h3, h4⟩⟩
  · rw [he] at h1; cases h1
  · rw [key es rs ho] at h1
    exact absurd h1 want_short
  · exact ⟨h4.trans (key es rs ho), h2, h3⟩
theorem want_read : (Dsr.readR wantT).fErr = 0 ∧ Dsr.wrongName (Dsr.readR wantT).uses = none ∧ (Dsr.readR wantT).events = [{ Dsr.evF with roles := [[98, 111, 115, 115], [99, 108, 101, 114, 107]] }, Dsr.evS] ∧ (Dsr.readR wantT).rules = [Dsr.ru2, Dsr.ru1, Dsr.ru3, Dsr.ru5] := by
  refine ⟨?_, ?_, ?_, ?_⟩
  · kernel_rfl
  · kernel_rfl
  · kernel_rfl
  · kernel_rfl
theorem sorted_rules4 : [Dsr.ru2, Dsr.ru1, Dsr.ru3, Dsr.ru5].Pairwise (fun a b => 0 ≤ cmpRl b a) := by
  simp [List.pairwise_cons, cmpRl, or3, cmpS_eq]
  decide
theorem text_want4 : Dsr.text ([{ Dsr.evF with roles := [[98, 111, 115, 115], [99, 108, 101, 114, 107]] }, Dsr.evS].map (fun e => { e with roles := e.roles.mergeSort fun x y => decide (x ≤ y) })) (Dsr.compact eqRl [Dsr.ru2, Dsr.ru1, Dsr.ru3, Dsr.ru5]) = wantT := by
  simp only [List.map_cons, List.map_nil, Dsr.evF, Dsr.evS]
  rw [sort_bc, List.mergeSort_singleton]
  decide
theorem print_want {out : List UInt8} {fe fa : Nat} (h : PrintP wantT out fe fa) : out = wantT ∧ fe = 0 ∧ fa = 0 := by
  obtain ⟨w1, w2, w3, w4⟩ := want_read
  have he : errOf wantT = none := by
    unfold errOf
    rw [if_neg want_short, w1, if_neg (by simp), w2]
    rfl
  have key : ∀ es rs, OrdG (Dsr.readR wantT) es rs → Dsr.text es rs = wantT := by
    intro es rs ho
    have hpe : [{ Dsr.evF with roles := [[98, 111, 115, 115], [99, 108, 101, 114, 107]] }, Dsr.evS].Perm (Dsr.readR wantT).events := by rw [w3]
    obtain ⟨e1, e2⟩ := ord_one ho hpe (by simp only [List.pairwise_cons]; decide) (nd_fs hpe (by decide)) (cr := [Dsr.ru2, Dsr.ru1, Dsr.ru3, Dsr.ru5]) (by rw [w4]) sorted_rules4
    rw [e1, e2]
    exact text_want4
  rcases h with ⟨h1, _⟩ | ⟨_, es, rs, ho, ⟨h1, _⟩ | ⟨_, h2, h3, h4⟩⟩
  · rw [he] at h1; cases h1
  · rw [key es rs ho] at h1
    exact absurd h1 want_short
  · exact ⟨h4.trans (key es rs ho), h2, h3⟩
theorem print_bad {g : Nat → List UInt8} (hg : ∀ n, (g n).length ≤ 2 ∧ ∀ c ∈ g n, Dsr.blank c = true) {turn bad : Nat} (ht : turn < 7) (hb : bad < 35) {out : List UInt8} {fe fa : Nat} (h : PrintP (Dsr.spAll g bad turn 7).s out fe fa) : out = [] ∧ fe = 2 ∧ fa = (Dsr.spAll g bad turn 7).at_ := by
  have hl : (Dsr.spAll g bad turn 7).s.length ≤ 400 := by
    have h1 := Dsr.all_fit (fun n => (hg n).1) (bad := bad) (turn := turn) 7
    have h2 := h1.1.1
    have h3 : (Dsr.spAll g bad turn 7).n = 35 := by
      rw [Dsr.spAll_eq, (Dsr.line_fit (fun n => (hg n).1) (bad := bad) (Dsr.allT turn) ⟨[], 0, 0, false⟩ (fun w hw => by
        obtain ⟨i, _, hi⟩ := List.mem_flatMap.1 hw
        exact ((Dsr.line_ok _ (Nat.mod_lt _ (by decide))).2.2 w hi).1) ⟨Nat.zero_le _, Nat.le_refl _⟩).2, Dsr.allT_len turn ht]
    omega
  obtain ⟨h1, h2⟩ := Dsr.bad_read (fun n => (hg n).2) turn bad ht hb
  have he : errOf (Dsr.spAll g bad turn 7).s = some (2, (Dsr.spAll g bad turn 7).at_) := by
    unfold errOf
    rw [if_neg (by omega), h1, h2, if_pos (by decide)]
  rcases h with ⟨h3, _, h5⟩ | ⟨h3, _⟩
  · rw [he] at h3
    cases h3
    exact ⟨h5, rfl, rfl⟩
  · rw [he] at h3; cases h3
end Go.Proofs.YtjmcokcdaddpcaaGreatDoor
