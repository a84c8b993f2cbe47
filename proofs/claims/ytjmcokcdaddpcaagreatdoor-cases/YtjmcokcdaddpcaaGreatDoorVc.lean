import Derived.Test.YtjmcokcdaddpcaaGreatDoorUc
import Derived.KernelRfl
import Derived.Deep.QuietTactic
import Derived.BigQuiet
import Derived.Deep.RegionWith
import Derived.Test.YtjmcokcdaddpcaaGreatDoorUa
import Derived.Deep.LoopGhost
set_option linter.unusedVariables false
set_option linter.unusedSimpArgs false
namespace Go.Proofs.YtjmcokcdaddpcaaGreatDoor
open Go.RowKit
/-- pick: a raw number folded. -/
def pickN (c : Int) (n : Int) : Int := (if c < 0 then -(c + 1) else c) % n
set_option maxHeartbeats 800000 in
theorem kpick_any (c n : Int) (w : World) (h0 : -9223372036854775808 ≤ c) (h1 : c ≤ 9223372036854775807) (hn : 1 ≤ n) (hn' : n ≤ 1000) :
    Calls Tryz.prog 19 #[.int .i64 c, .int .i64 n] w fun e w' => e = .returned (.int .i64 (pickN c n)) ∧ w' = w := by
  have hn0 : (n == 0) = false := by simp; omega
  by_cases hc : c < 0
  · have hE : pickN c n = (-(c + 1)) % n := by unfold pickN; rw [if_pos hc]
    have HE : Hid (pickN c n = (-(c + 1)) % n) := hE
    clear hE
    go_enter Tryz.func19, Tryz.ntmps19
    go_wp2
    go_ret
    refine ⟨ret_int ?_, rfl⟩
    rw [HE.out]
    have h2 : ((-(c + 1)).tmod n) = (-(c + 1)) % n := Int.tmod_eq_emod_of_nonneg (by omega)
    rw [← Int.neg_tmod]; exact h2
  · have hE : pickN c n = c % n := by unfold pickN; rw [if_neg hc]
    have HE : Hid (pickN c n = c % n) := hE
    clear hE
    go_enter Tryz.func19, Tryz.ntmps19
    go_wp2
    go_ret
    exact ⟨ret_int HE.out.symm, rfl⟩
set_option maxHeartbeats 800000 in
theorem kletter_any (c : UInt8) (l : List UInt8) (w : World) : Calls Tryz.prog 52 #[.string ⟨(c :: l).toArray⟩] w fun e w' => e = .returned (.bool (Dsr.letter c)) ∧ w' = w := by
  go_enter Tryz.func52, Tryz.ntmps52
  have h0 : (ByteArray.mk (c :: l).toArray)[0]'(by simp [ByteArray.size]) = c := rfl
  by_cases h1 : 97 ≤ c.toNat
  · have h2 : (97 : Int) ≤ (c.toNat : Int) := by omega
    have HE : Hid (Dsr.letter c = decide ((c.toNat : Int) ≤ 122)) := by
      show _ = _
      unfold Dsr.letter
      rw [Bool.eq_iff_iff]; simp; omega
    go_wp2
    all_goals
      go_ret
      exact ⟨ret_bool HE.out.symm, rfl⟩
  · have h2 : (c.toNat : Int) < 97 := by omega
    have HE : Hid (Dsr.letter c = false) := by
      show _ = _
      unfold Dsr.letter
      simp [h1]
    go_wp2
    all_goals
      go_ret
      exact ⟨ret_bool HE.out.symm, rfl⟩
/-- A slice of whole numbers that can be read. -/
def RawIs (w : World) (v : Value) (zs : List Int) : Prop :=
  (v = .slice none 0 0 ∧ zs = []) ∨ ∃ (a : Addr) (cap : Nat), v = .slice (some a) zs.length cap ∧ zs.length ≤ maxLen ∧ (∀ i, i < zs.length → w.cell? (a.add i) = some (.int .i64 (zs.getD i 0))) ∧ ∀ z ∈ zs, (Lit.int .i64 z).wf = true
/-- The blanks of a raw number. -/
def gapL (k : Int) : List UInt8 := (if k < 3 then [] else if k % 3 = 0 then [32] else if k % 3 = 1 then [9] else [10]) ++ (if k < 6 then [] else [32])
def gapN (zs : List Int) (n : Nat) : List UInt8 := if zs.length = 0 then [] else gapL (pickN (IntKind.i64.wrap (zs.getD (n % zs.length) 0 + (n / zs.length : Nat))) 9)
theorem pickN_lt (c : Int) : 0 ≤ pickN c 9 ∧ pickN c 9 < 9 := by unfold pickN; split <;> omega
set_option maxHeartbeats 1600000 in
theorem kgap_any (w : World) (v : Value) (zs : List Int) (n : Nat) (hn : n ≤ 100) (h : RawIs w v zs) :
    Calls Tryz.prog 51 #[v, .int .i64 n] w fun e w' => e = .returned (strV (gapN zs n)) ∧ ∃ m, w' = w.drewN m := by
  rcases h with ⟨rfl, rfl⟩ | ⟨a, cap, rfl, hm, hc, hw⟩
  · go_enter Tryz.func51, Tryz.ntmps51
    go_wp2
    go_ret
    exact ⟨rfl, 0, rfl⟩
  · by_cases h0 : zs.length = 0
    · have : zs = [] := List.eq_nil_of_length_eq_zero h0
      subst this
      go_enter Tryz.func51, Tryz.ntmps51
      go_wp2
      go_ret
      exact ⟨rfl, 0, rfl⟩
    · have hq : n % zs.length < zs.length := Nat.mod_lt _ (by omega)
      have hcq := hc _ hq
      have hb0 : ((zs.length : Int) == 0) = false := beq_eq_false_iff_ne.2 (by omega)
      have hmod : ((n : Int).tmod (zs.length : Int)) = ((n % zs.length : Nat) : Int) := by rw [Int.tmod_eq_emod_of_nonneg (Int.natCast_nonneg _)]; rfl
      have hdiv : ((n : Int).tdiv (zs.length : Int)) = ((n / zs.length : Nat) : Int) := by rw [Int.tdiv_eq_ediv_of_nonneg (Int.natCast_nonneg _)]; rfl
      have hdl : n / zs.length ≤ n := Nat.div_le_self _ _
      have HE : Hid (gapN zs n = gapL (pickN (IntKind.i64.wrap (zs.getD (n % zs.length) 0 + (n / zs.length : Nat))) 9)) := by show _ = _; unfold gapN; rw [if_neg h0]
      generalize hz : zs.getD (n % zs.length) 0 = z at *
      generalize n / zs.length = d at *
      generalize n % zs.length = m at *
      have hwz : (Lit.int .i64 z).wf = true := by
        subst hz
        exact hw _ (by rw [List.getD, List.getElem?_eq_getElem hq]; exact List.getElem_mem _)
      have hmI : (m : Int) < (zs.length : Int) := by omega
      have hwd : IntKind.i64.wrap (d : Int) = (d : Int) := by
        simp [IntKind.wrap, IntKind.bits, IntKind.signed]; omega
      have hx : -9223372036854775808 ≤ IntKind.i64.wrap (z + d) ∧ IntKind.i64.wrap (z + d) ≤ 9223372036854775807 := by
        simp only [IntKind.wrap, IntKind.bits, IntKind.signed]; simp; omega
      clear hz hc hw hwz
      have hX : ∃ X, IntKind.i64.wrap (z + d) = X := ⟨_, rfl⟩
      obtain ⟨X, hX⟩ := hX
      rw [hX] at HE hx
      have hp := pickN_lt X
      have HK : Hid (-9223372036854775808 ≤ X ∧ X ≤ 9223372036854775807) := hx
      clear hx
      have hpk : ∃ K, pickN X 9 = K := ⟨_, rfl⟩
      obtain ⟨K, hpk⟩ := hpk
      have HC : Hid (∀ W : World, Calls Tryz.prog 19 #[.int .i64 X, .int .i64 9] W fun e w' => e = .returned (.int .i64 K) ∧ w' = W) := fun W => by
        rw [← hpk]
        exact kpick_any X 9 W HK.out.1 HK.out.2 (by decide) (by decide)
      rw [hpk] at HE hp
      clear hpk
      go_enter Tryz.func51, Tryz.ntmps51
      go_wp2_with fail
      go_quiet (first | (go_at_call 19; exact Calls.quiet_of_same (HC.out _)) | exact Calls.quiet_of_same (HC.out _))
      have hcs : K = 0 ∨ K = 1 ∨ K = 2 ∨ K = 3 ∨ K = 4 ∨ K = 5 ∨ K = 6 ∨ K = 7 ∨ K = 8 := by omega
      clear hp
      rcases hcs with rfl | rfl | rfl | rfl | rfl | rfl | rfl | rfl | rfl
      all_goals
        go_wp2_with fail
        go_ret
        refine ⟨?_, _, rfl⟩
        rw [HE.out]
        rfl
end Go.Proofs.YtjmcokcdaddpcaaGreatDoor
namespace Go.Proofs.YtjmcokcdaddpcaaGreatDoor
open Go.RowKit
/-- The lines lie in memory, from a block on. -/
structure LinesAt (b : Nat) (w : World) : Prop where
  outer : ∀ j, j < 7 → w.cell? ⟨b + 7, j, none⟩ = some (.slice (some ⟨b + j, 0, none⟩) (Dsr.lineAt j).length (Dsr.lineAt j).length)
  inner : ∀ j k, j < 7 → k < (Dsr.lineAt j).length → w.cell? ⟨b + j, k, none⟩ = some (strV (Dsr.tokAt j k))
def allocAll : List Obj → World → World
  | [], w => w
  | o :: l, w => allocAll l (w.alloc o)
theorem allocAll_old : ∀ (l : List Obj) (w : World) (b : Nat), b < w.heap.size → (allocAll l w).heap[b]? = w.heap[b]?
  | [], w, b, _ => rfl
  | o :: l, w, b, h => (allocAll_old l (w.alloc o) b (by simp; omega)).trans (Below.heap_alloc _ _ _ h)
theorem allocAll_at : ∀ (l : List Obj) (w : World) (i : Nat) (o : Obj), l[i]? = some o → (allocAll l w).heap[w.heap.size + i]? = some o
  | [], w, i, o, h => by simp at h
  | x :: l, w, 0, o, h => by
    cases h
    exact (allocAll_old l (w.alloc x) w.heap.size (by simp)).trans (heap_alloc_new _ _)
  | x :: l, w, i + 1, o, h => by
    have := allocAll_at l (w.alloc x) i o h
    have e : (w.alloc x).heap.size + i = w.heap.size + (i + 1) := by simp; omega
    rw [e] at this
    exact this
theorem allocAll_below : ∀ (l : List Obj) (w a : World) (B : Nat), Below B a w → B ≤ w.heap.size → Below B a (allocAll l w)
  | [], _, _, _, h, _ => h
  | o :: l, w, a, B, h, hB => allocAll_below l (w.alloc o) a B (h.alloc hB _) (by simp; omega)
theorem linesAt_of {b : Nat} {w : World} {T U : TypeId} (h7 : w.heap[b + 7]? = some (.cells ((List.range 7).map fun j => Value.slice (some ⟨b + j, 0, none⟩) (Dsr.lineAt j).length (Dsr.lineAt j).length).toArray T (0, 0)))
    (h : ∀ j, j < 7 → w.heap[b + j]? = some (.cells ((Dsr.lineAt j).map strV).toArray U (0, 0))) : LinesAt b w := by
  constructor
  · intro j hj
    simp only [World.cell?, h7]
    simp [hj]
  · intro j k hj hk
    simp only [World.cell?, h j hj]
    simp [hk, Dsr.tokAt]
set_option maxRecDepth 100000 in
set_option maxHeartbeats 3200000 in
theorem klines_any (w : World) :
    Calls Tryz.prog 50 #[] w fun e w' => e = .returned (.slice (some ⟨w.heap.size + 7, 0, none⟩) 7 7) ∧ LinesAt w.heap.size w' ∧ Below w.heap.size w w' := by
  go_enter Tryz.func50, Tryz.ntmps50
  go_wp2_with fail
  go_ret
  have hA : ∀ w' : World, w' = allocAll ((List.range 7).map (fun j => Obj.cells ((Dsr.lineAt j).map strV).toArray 9) ++ [Obj.cells ((List.range 7).map fun j => Value.slice (some ⟨w.heap.size + j, 0, none⟩) (Dsr.lineAt j).length (Dsr.lineAt j).length).toArray 22]) w → LinesAt w.heap.size w' ∧ Below w.heap.size w w' := by
    rintro w' rfl
    refine ⟨linesAt_of (T := 22) (U := 9) (allocAll_at _ _ 7 _ rfl) (fun j hj => allocAll_at _ _ j _ ?_), allocAll_below _ _ _ _ (Below.refl _ _) (Nat.le_refl _)⟩
    rw [List.getElem?_append_left (by simpa using hj)]
    simp [hj]
  refine ⟨rfl, hA _ rfl⟩
end Go.Proofs.YtjmcokcdaddpcaaGreatDoor
set_option linter.unusedVariables false
set_option linter.unusedSimpArgs false
namespace Go.Proofs.YtjmcokcdaddpcaaGreatDoor
open Go.RowKit
theorem gapL_ok (k : Int) : (gapL k).length ≤ 2 ∧ ∀ c ∈ gapL k, Dsr.blank c = true := by
  unfold gapL
  constructor
  · split <;> split <;> (try split) <;> (try split) <;> simp
  · intro c hc
    simp only [List.mem_append] at hc
    rcases hc with hc | hc
    · split at hc
      · simp at hc
      · split at hc
        · simp at hc; subst hc; rfl
        · split at hc
          · simp at hc; subst hc; rfl
          · simp at hc; subst hc; rfl
    · split at hc
      · simp at hc
      · simp at hc; subst hc; rfl
theorem gapN_ok (zs : List Int) (n : Nat) : (gapN zs n).length ≤ 2 ∧ ∀ c ∈ gapN zs n, Dsr.blank c = true := by
  unfold gapN
  split
  · simp
  · exact gapL_ok _
theorem RawIs.below {w w' : World} {v : Value} {zs : List Int} (h : RawIs w v zs) (hb : Below w.heap.size w w') : RawIs w' v zs := by
  rcases h with h | ⟨a, cap, h1, h2, h3, h4⟩
  · exact .inl h
  · refine .inr ⟨a, cap, h1, h2, fun i hi => ?_, h4⟩
    have := h3 i hi
    rw [hb.cell (World.block_lt_of_cell? _ _ this)]
    exact this
theorem RawIs.drewN {w : World} {v : Value} {zs : List Int} (h : RawIs w v zs) (n : Nat) : RawIs (w.drewN n) v zs := h.below ⟨rfl, rfl, rfl, Nat.le_refl _, fun _ _ => rfl⟩
theorem RawIs.form {w : World} {v : Value} {zs : List Int} (h : RawIs w v zs) : ∃ a n c, v = .slice a n c := by
  rcases h with ⟨h, _⟩ | ⟨a, cap, h1, _⟩
  · exact ⟨_, _, _, h⟩
  · exact ⟨_, _, _, h1⟩
theorem str5 (a b c d e : List UInt8) : (⟨a.toArray⟩ ++ ⟨b.toArray⟩ ++ ⟨c.toArray⟩ ++ ⟨d.toArray⟩ ++ ⟨e.toArray⟩ : ByteArray) = ⟨(a ++ b ++ c ++ d ++ e).toArray⟩ := by
  simp only [ByteArray.mk_append_mk]
theorem str3 (a b e : List UInt8) : (⟨a.toArray⟩ ++ ⟨b.toArray⟩ ++ ⟨e.toArray⟩ : ByteArray) = ⟨(a ++ b ++ e).toArray⟩ := by
  simp only [ByteArray.mk_append_mk]
theorem str4 (a b c e : List UInt8) : (⟨a.toArray⟩ ++ ⟨b.toArray⟩ ++ ⟨c.toArray⟩ ++ ⟨e.toArray⟩ : ByteArray) = ⟨(a ++ b ++ c ++ e).toArray⟩ := by
  simp only [ByteArray.mk_append_mk]
theorem no_strS (a : ByteArray) : a ++ ⟨([] : List UInt8).toArray⟩ = a := by
  apply ByteArray.ext; simp
set_option maxRecDepth 100000 in
set_option maxHeartbeats 3200000 in
theorem kspelt_any (w : World) (v : Value) (zs : List Int) (turn : Nat) (bad : Int) (ht : turn < 7) (hb1 : -1 ≤ bad) (hb2 : bad ≤ 40) (h : RawIs w v zs) :
    Calls Tryz.prog 20 #[v, .int .i64 turn, .int .i64 bad] w fun e w' => e = .returned (.tuple #[strV (Dsr.spAll (gapN zs) bad turn 7).s, .int .i64 (Dsr.spAll (gapN zs) bad turn 7).at_]) ∧ Below w.heap.size w w' := by
  obtain ⟨va, vn, vc, rfl⟩ := h.form
  have HR : Hid (RawIs w (.slice va vn vc) zs) := h
  clear h
  go_enter Tryz.func20, Tryz.ntmps20
  go_wp2_with fail
  refine (klines_any _).mono ?_
  rintro x wl ⟨rfl, hL, hB⟩
  have HL : Hid (LinesAt w.heap.size wl ∧ Below w.heap.size w wl ∧ RawIs wl (.slice va vn vc) zs) := ⟨hL, hB, HR.out.below hB⟩
  clear hL hB HR
  go_wp2_with fail
  go_loopg [9, 10, 11, 12, 13] 7 (fun g s9 s10 s11 s12 s13 wr => ∃ (i q : Nat), i + g = 7 ∧ s13 = .int .i64 i ∧ wr = wl.drewN q ∧ s9 = strV (Dsr.spAll (gapN zs) bad turn i).s ∧ s10 = .int .i64 (Dsr.spAll (gapN zs) bad turn i).at_ ∧ s11 = .int .i64 (Dsr.spAll (gapN zs) bad turn i).n ∧ s12 = .bool (Dsr.spAll (gapN zs) bad turn i).word)
  case atStart => exact ⟨0, 0, rfl, rfl, rfl, rfl, rfl, rfl, rfl⟩
  case round =>
    obtain ⟨i, q, hi, rfl, rfl, rfl, rfl, rfl, rfl⟩ := hrel
    by_cases hlt : i < 7
    · have hF := Dsr.all_fit (fun n => (gapN_ok zs n).1) (bad := bad) (turn := turn) i
      have hS : Dsr.spAll (gapN zs) bad turn (i + 1) = Dsr.spLine (gapN zs) bad (Dsr.spAll (gapN zs) bad turn i) (Dsr.lineAt ((i + turn) % 7)) := rfl
      have hj : (i + turn) % 7 < 7 := Nat.mod_lt _ (by decide)
      have hI : ∃ I, i + turn = I := ⟨_, rfl⟩
      obtain ⟨I, hI⟩ := hI
      have hw1 : IntKind.i64.wrap ((i : Int) + (turn : Int)) = (I : Int) := by
        simp [IntKind.wrap, IntKind.bits, IntKind.signed]; omega
      have hmod : ((I : Int).tmod 7) = ((I % 7 : Nat) : Int) := by rw [Int.tmod_eq_emod_of_nonneg (Int.natCast_nonneg _)]; rfl
      rw [hI] at hS hj
      generalize I % 7 = j at *
      have hjI : (j : Int) < 7 := by omega
      have ho := HL.out.1.outer j hj
      have hlo := Dsr.line_ok j hj
      generalize hst : Dsr.spAll (gapN zs) bad turn i = st at *
      have HS : Hid (Dsr.spAll (gapN zs) bad turn (i + 1) = Dsr.spLine (gapN zs) bad st (Dsr.lineAt j)) := hS
      have HF : Hid (st.fit ∧ st.n ≤ 8 * i) := hF
      have HJ : Hid ((Dsr.lineAt j).length ≤ 8 ∧ 0 < (Dsr.lineAt j).length ∧ ∀ w ∈ Dsr.lineAt j, w.length ≤ 5 ∧ w ≠ []) := hlo
      have hl8 : ((Dsr.lineAt j).length : Int) ≤ 8 := by omega
      have hiI : decide ((i : Int) < 7) = true := decide_eq_true (by omega)
      clear hS hF hlo hst hI
      go_wp2_with fail
      go_loopg [9, 10, 11, 12, 15] (Dsr.lineAt j).length (fun g s9 s10 s11 s12 s15 wr => ∃ (k q : Nat), k + g = (Dsr.lineAt j).length ∧ s15 = .int .i64 k ∧ wr = wl.drewN q ∧ s9 = strV (Dsr.spLine (gapN zs) bad st ((Dsr.lineAt j).take k)).s ∧ s10 = .int .i64 (Dsr.spLine (gapN zs) bad st ((Dsr.lineAt j).take k)).at_ ∧ s11 = .int .i64 (Dsr.spLine (gapN zs) bad st ((Dsr.lineAt j).take k)).n ∧ s12 = .bool (Dsr.spLine (gapN zs) bad st ((Dsr.lineAt j).take k)).word)
      case atStart => exact ⟨0, q, by omega, rfl, rfl, rfl, rfl, rfl, rfl⟩
      case round =>
        obtain ⟨k, q, hk, rfl, rfl, rfl, rfl, rfl, rfl⟩ := hrel
        by_cases hlt2 : k < (Dsr.lineAt j).length
        · have hF := Dsr.line_fit (fun n => (gapN_ok zs n).1) (bad := bad) ((Dsr.lineAt j).take k) st (fun x hx => (HJ.out.2.2 x (List.mem_of_mem_take hx)).1) HF.out.1
          have htk : (Dsr.lineAt j)[k]? = some (Dsr.tokAt j k) := by unfold Dsr.tokAt; simp [hlt2]
          have hS2 := Dsr.line_snoc (gapN zs) bad st _ _ _ htk
          have hin := HL.out.1.inner j k hj hlt2
          have hto := HJ.out.2.2 _ (List.mem_of_getElem? htk)
          generalize Dsr.tokAt j k = t at *
          obtain ⟨c, l, rfl⟩ : ∃ c l, t = c :: l := by
            rcases t with _ | ⟨c, l⟩
            · exact absurd rfl hto.2
            · exact ⟨c, l, rfl⟩
          have hNn : (Dsr.spLine (gapN zs) bad st ((Dsr.lineAt j).take k)).n ≤ 64 := by
            have h1 := hF.2
            have h2 := HF.out.2
            have h3 := HJ.out.1
            rw [List.length_take] at h1
            omega
          have hfit := hF.1
          clear hF htk
          generalize Dsr.spLine (gapN zs) bad st ((Dsr.lineAt j).take k) = st2 at *
          obtain ⟨S, A, N, W⟩ := st2
          have hKL := fun W' => kletter_any c l W'
          have hfit : S.length ≤ 9 * N ∧ A ≤ S.length := hfit
          have hNn : N ≤ 64 := hNn
          have hG := fun q => kgap_any (wl.drewN q) _ zs N (by omega) (HL.out.2.2.drewN q)
          have hgl := (gapN_ok zs N).1
          have hSN : Dsr.spLine (gapN zs) bad st ((Dsr.lineAt j).take (k + 1)) = ⟨S ++ gapN zs N ++ (if W && Dsr.letter c then [32] else []) ++ (if (N : Int) = bad then [61] else []) ++ (c :: l), if (N : Int) = bad then (S ++ gapN zs N ++ (if W && Dsr.letter c then [32] else [])).length else A, N + 1, Dsr.letter c⟩ := hS2
          have HNX : ∃ nx, Hid (Dsr.spLine (gapN zs) bad st ((Dsr.lineAt j).take (k + 1)) = nx) := ⟨_, rfl⟩
          obtain ⟨nx, HNX⟩ := HNX
          rw [HNX.out] at hSN
          clear hS2
          generalize Dsr.letter c = L at *
          have HKL : Hid (∀ W' : World, Calls Tryz.prog 52 #[.string ⟨(c :: l).toArray⟩] W' fun e w' => e = .returned (.bool L) ∧ w' = W') := hKL
          generalize gapN zs N = g at *
          have HG : Hid (∀ q, Calls Tryz.prog 51 #[.slice va vn vc, .int .i64 N] (wl.drewN q) fun e w' => e = .returned (strV g) ∧ ∃ m, w' = wl.drewN m) := fun q => (hG q).mono fun e w' ⟨he, m, hm⟩ => ⟨he, q + m, by rw [hm, World.drewN_drewN]⟩
          have hgI : (g.length : Int) ≤ 2 := by omega
          have hSI : (S.length : Int) ≤ 600 := by omega
          have hlI : (l.length : Int) ≤ 4 := by have := hto.1; simp at this; omega
          have hNI : (N : Int) ≤ 64 := by omega
          clear hG hto hgl hfit hKL
          by_cases hbd : (N : Int) = bad
          · rw [if_pos hbd, if_pos hbd] at hSN
            subst hbd
            rcases W with _ | _ <;> rcases L with _ | _
            · have HZ : Hid (nx = ⟨S ++ g ++ [61] ++ (c :: l), (S ++ g).length, N + 1, false⟩) := by
                show _ = _
                rw [hSN]; simp
              clear hSN
              go_wp2_with (first | (go_at_call 51; refine (HG.out _).mono ?_; rintro e w' ⟨rfl, m, rfl⟩) | (go_at_call 52; refine (HKL.out _).mono ?_; rintro e w' ⟨rfl, rfl⟩))
              go_roundg ((Dsr.lineAt j).length - (k + 1))
              case measure => omega
              case rel =>
                refine ⟨k + 1, m, by omega, by go_num, rfl, ?_, ?_, ?_, ?_⟩
                · rw [HNX.out, HZ.out]; exact congrArg Value.string (str4 S g [61] (c :: l))
                · rw [HNX.out, HZ.out]; exact congrArg (Value.int .i64) (by simp; try omega)
                · rw [HNX.out, HZ.out]; exact congrArg (Value.int .i64) (by simp)
                · rw [HNX.out, HZ.out]
            · have HZ : Hid (nx = ⟨S ++ g ++ [61] ++ (c :: l), (S ++ g).length, N + 1, true⟩) := by
                show _ = _
                rw [hSN]; simp
              clear hSN
              go_wp2_with (first | (go_at_call 51; refine (HG.out _).mono ?_; rintro e w' ⟨rfl, m, rfl⟩) | (go_at_call 52; refine (HKL.out _).mono ?_; rintro e w' ⟨rfl, rfl⟩))
              go_roundg ((Dsr.lineAt j).length - (k + 1))
              case measure => omega
              case rel =>
                refine ⟨k + 1, m, by omega, by go_num, rfl, ?_, ?_, ?_, ?_⟩
                · rw [HNX.out, HZ.out]; exact congrArg Value.string (str4 S g [61] (c :: l))
                · rw [HNX.out, HZ.out]; exact congrArg (Value.int .i64) (by simp; try omega)
                · rw [HNX.out, HZ.out]; exact congrArg (Value.int .i64) (by simp)
                · rw [HNX.out, HZ.out]
            · have HZ : Hid (nx = ⟨S ++ g ++ [61] ++ (c :: l), (S ++ g).length, N + 1, false⟩) := by
                show _ = _
                rw [hSN]; simp
              clear hSN
              go_wp2_with (first | (go_at_call 51; refine (HG.out _).mono ?_; rintro e w' ⟨rfl, m, rfl⟩) | (go_at_call 52; refine (HKL.out _).mono ?_; rintro e w' ⟨rfl, rfl⟩))
              go_roundg ((Dsr.lineAt j).length - (k + 1))
              case measure => omega
              case rel =>
                refine ⟨k + 1, m, by omega, by go_num, rfl, ?_, ?_, ?_, ?_⟩
                · rw [HNX.out, HZ.out]; exact congrArg Value.string (str4 S g [61] (c :: l))
                · rw [HNX.out, HZ.out]; exact congrArg (Value.int .i64) (by simp; try omega)
                · rw [HNX.out, HZ.out]; exact congrArg (Value.int .i64) (by simp)
                · rw [HNX.out, HZ.out]
            · have HZ : Hid (nx = ⟨S ++ g ++ [32] ++ [61] ++ (c :: l), (S ++ g ++ [32]).length, N + 1, true⟩) := by
                show _ = _
                rw [hSN]; simp
              clear hSN
              go_wp2_with (first | (go_at_call 51; refine (HG.out _).mono ?_; rintro e w' ⟨rfl, m, rfl⟩) | (go_at_call 52; refine (HKL.out _).mono ?_; rintro e w' ⟨rfl, rfl⟩))
              go_roundg ((Dsr.lineAt j).length - (k + 1))
              case measure => omega
              case rel =>
                refine ⟨k + 1, m, by omega, by go_num, rfl, ?_, ?_, ?_, ?_⟩
                · rw [HNX.out, HZ.out]; exact congrArg Value.string (str5 S g [32] [61] (c :: l))
                · rw [HNX.out, HZ.out]; exact congrArg (Value.int .i64) (by simp; try omega)
                · rw [HNX.out, HZ.out]; exact congrArg (Value.int .i64) (by simp)
                · rw [HNX.out, HZ.out]
          · rw [if_neg hbd, if_neg hbd] at hSN
            have hbn : ((N : Int) == bad) = false := beq_eq_false_iff_ne.2 hbd
            clear hbd
            rcases W with _ | _ <;> rcases L with _ | _
            · have HZ : Hid (nx = ⟨S ++ g ++ (c :: l), A, N + 1, false⟩) := by
                show _ = _
                rw [hSN]; simp
              clear hSN
              go_wp2_with (first | (go_at_call 51; refine (HG.out _).mono ?_; rintro e w' ⟨rfl, m, rfl⟩) | (go_at_call 52; refine (HKL.out _).mono ?_; rintro e w' ⟨rfl, rfl⟩))
              go_roundg ((Dsr.lineAt j).length - (k + 1))
              case measure => omega
              case rel =>
                refine ⟨k + 1, m, by omega, by go_num, rfl, ?_, ?_, ?_, ?_⟩
                · rw [HNX.out, HZ.out]; exact congrArg Value.string (str3 S g (c :: l))
                · rw [HNX.out, HZ.out]
                · rw [HNX.out, HZ.out]; exact congrArg (Value.int .i64) (by simp)
                · rw [HNX.out, HZ.out]
            · have HZ : Hid (nx = ⟨S ++ g ++ (c :: l), A, N + 1, true⟩) := by
                show _ = _
                rw [hSN]; simp
              clear hSN
              go_wp2_with (first | (go_at_call 51; refine (HG.out _).mono ?_; rintro e w' ⟨rfl, m, rfl⟩) | (go_at_call 52; refine (HKL.out _).mono ?_; rintro e w' ⟨rfl, rfl⟩))
              go_roundg ((Dsr.lineAt j).length - (k + 1))
              case measure => omega
              case rel =>
                refine ⟨k + 1, m, by omega, by go_num, rfl, ?_, ?_, ?_, ?_⟩
                · rw [HNX.out, HZ.out]; exact congrArg Value.string (str3 S g (c :: l))
                · rw [HNX.out, HZ.out]
                · rw [HNX.out, HZ.out]; exact congrArg (Value.int .i64) (by simp)
                · rw [HNX.out, HZ.out]
            · have HZ : Hid (nx = ⟨S ++ g ++ (c :: l), A, N + 1, false⟩) := by
                show _ = _
                rw [hSN]; simp
              clear hSN
              go_wp2_with (first | (go_at_call 51; refine (HG.out _).mono ?_; rintro e w' ⟨rfl, m, rfl⟩) | (go_at_call 52; refine (HKL.out _).mono ?_; rintro e w' ⟨rfl, rfl⟩))
              go_roundg ((Dsr.lineAt j).length - (k + 1))
              case measure => omega
              case rel =>
                refine ⟨k + 1, m, by omega, by go_num, rfl, ?_, ?_, ?_, ?_⟩
                · rw [HNX.out, HZ.out]; exact congrArg Value.string (str3 S g (c :: l))
                · rw [HNX.out, HZ.out]
                · rw [HNX.out, HZ.out]; exact congrArg (Value.int .i64) (by simp)
                · rw [HNX.out, HZ.out]
            · have HZ : Hid (nx = ⟨S ++ g ++ [32] ++ (c :: l), A, N + 1, true⟩) := by
                show _ = _
                rw [hSN]; simp
              clear hSN
              go_wp2_with (first | (go_at_call 51; refine (HG.out _).mono ?_; rintro e w' ⟨rfl, m, rfl⟩) | (go_at_call 52; refine (HKL.out _).mono ?_; rintro e w' ⟨rfl, rfl⟩))
              go_roundg ((Dsr.lineAt j).length - (k + 1))
              case measure => omega
              case rel =>
                refine ⟨k + 1, m, by omega, by go_num, rfl, ?_, ?_, ?_, ?_⟩
                · rw [HNX.out, HZ.out]; exact congrArg Value.string (str4 S g [32] (c :: l))
                · rw [HNX.out, HZ.out]
                · rw [HNX.out, HZ.out]; exact congrArg (Value.int .i64) (by simp)
                · rw [HNX.out, HZ.out]
        · have hk' : k = (Dsr.lineAt j).length := by omega
          subst hk'
          have HZ : Hid (Dsr.spLine (gapN zs) bad st ((Dsr.lineAt j).take (Dsr.lineAt j).length) = Dsr.spAll (gapN zs) bad turn (i + 1)) := by
            show _ = _
            rw [HS.out, List.take_length]
          rw [HZ.out]
          clear hlt2
          go_wp2_with fail
          go_roundg (7 - (i + 1))
          case measure => omega
          case rel => exact ⟨i + 1, q, by omega, by go_num, rfl, rfl, rfl, rfl, rfl⟩
    · have hi' : i = 7 := by omega
      subst hi'
      clear hlt
      go_wp2_with fail
      go_ret2
      exact ⟨rfl, HL.out.2.1.trans ⟨rfl, rfl, rfl, Nat.le_refl _, fun _ _ => rfl⟩⟩
end Go.Proofs.YtjmcokcdaddpcaaGreatDoor
