import Derived.Test.YtjmcokcdaddpcaaGreatDoorUn
import Derived.LoopN
import Derived.Test.YtjmcokcdaddpcaaGreatDoorUa
import Derived.Test.YtjmcokcdaddpcaaGreatDoorShelf
set_option linter.unusedVariables false
set_option linter.unusedSimpArgs false
namespace Go.Proofs.YtjmcokcdaddpcaaGreatDoor
open Go.RowKit
set_option maxRecDepth 100000 in
set_option maxHeartbeats 1600000 in
theorem defines_any {w : World} {g c : Nat} {us : List Dsr.Us} (nm : List UInt8) (h : UsIn w g us) (hl : us.length ≤ 1000) :
    Calls Tryz.prog 150 #[.slice (some ⟨g, 0, none⟩) us.length c, strV nm] w fun x w' => x = .returned (.bool (us.any (Dsr.isDef nm))) ∧ Below w.heap.size w w' := by
  have H : Hid (UsIn w g us) := h
  clear h
  go_enter Tryz.func150, Tryz.ntmps150
  go_wp2_with fail
  refine (contains_def (nm := nm) (H.out.below ((Below.refl _ _).alloc (Nat.le_refl _) _)) hl (by simp) (by simp)).mono ?_
  rintro e w1 ⟨rfl, hb⟩
  have HB : Hid (Below w.heap.size w w1) := below_alloc hb
  clear hb
  go_wp2_with fail
  go_ret
  exact ⟨rfl, HB.out⟩
set_option maxRecDepth 100000 in
set_option maxHeartbeats 1600000 in
theorem hasRole_any {w : World} {g c : Nat} {us : List Dsr.Us} (ev : Nat) (nm : List UInt8) (h : UsIn w g us) (hl : us.length ≤ 1000) :
    Calls Tryz.prog 151 #[.slice (some ⟨g, 0, none⟩) us.length c, .int .i64 ev, strV nm] w fun x w' => x = .returned (.bool (us.any (Dsr.isRole ev nm))) ∧ Below w.heap.size w w' := by
  have H : Hid (UsIn w g us) := h
  clear h
  go_enter Tryz.func151, Tryz.ntmps151
  go_wp2_with fail
  refine (contains_role (ev := ev) (nm := nm) (H.out.below (((Below.refl _ _).alloc (Nat.le_refl _) _).alloc (by simp) _)) hl (by simp; omega) (by simp) (by simp) (by simp)).mono ?_
  rintro e w1 ⟨rfl, hb⟩
  have HB : Hid (Below w.heap.size w w1) := below_alloc (below_alloc hb)
  clear hb
  go_wp2_with fail
  go_ret
  exact ⟨rfl, HB.out⟩
set_option maxRecDepth 100000 in
set_option maxHeartbeats 1600000 in
theorem isWrong_any {w : World} {g c g' c' : Nat} (u : Dsr.Us) {us all : List Dsr.Us} (h : UsIn w g us) (hl : us.length ≤ 1000) (h' : UsIn w g' all) (hl' : all.length ≤ 1000) :
    Calls Tryz.prog 102 #[usV u, .slice (some ⟨g, 0, none⟩) us.length c, .slice (some ⟨g', 0, none⟩) all.length c'] w fun x w' => x = .returned (.bool (Dsr.isWrong u us all)) ∧ Below w.heap.size w w' := by
  have H : Hid (UsIn w g us ∧ UsIn w g' all) := ⟨h, h'⟩
  clear h h'
  by_cases h0 : u.as_ = 0
  · have hb : ((u.as_ : Int) == 0) = true := by simp [h0]
    have HE : Hid (Dsr.isWrong u us all = us.any (Dsr.isDef u.name)) := by show _ = _; rw [Dsr.isWrong, if_pos h0]
    clear h0
    go_enter Tryz.func102, Tryz.ntmps102
    go_wp2_with fail
    refine (defines_any u.name (H.out.1.below ((Below.refl _ _).alloc (Nat.le_refl _) _)) hl).mono ?_
    rintro e w1 ⟨rfl, hb1⟩
    have HB : Hid (Below w.heap.size w w1) := below_alloc hb1
    clear hb1
    go_wp2_with fail
    go_ret
    exact ⟨ret_bool HE.out.symm, HB.out⟩
  · have hb : ((u.as_ : Int) == 0) = false := by simp; omega
    by_cases h1 : u.as_ = 1
    · have hb1 : ((u.as_ : Int) == 1) = true := by simp [h1]
      have HE : Hid (Dsr.isWrong u us all = us.any (Dsr.isRole u.event u.name)) := by show _ = _; rw [Dsr.isWrong, if_neg h0, if_pos h1]
      clear h0 h1
      go_enter Tryz.func102, Tryz.ntmps102
      go_wp2_with fail
      refine (hasRole_any u.event u.name (H.out.1.below ((Below.refl _ _).alloc (Nat.le_refl _) _)) hl).mono ?_
      rintro e w1 ⟨rfl, hb1⟩
      have HB : Hid (Below w.heap.size w w1) := below_alloc hb1
      clear hb1
      go_wp2_with fail
      go_ret
      exact ⟨ret_bool HE.out.symm, HB.out⟩
    · have hb1 : ((u.as_ : Int) == 1) = false := by simp; omega
      have HE : Hid (Dsr.isWrong u us all = !all.any (Dsr.isDef u.name)) := by show _ = _; rw [Dsr.isWrong, if_neg h0, if_neg h1]
      clear h0 h1
      go_enter Tryz.func102, Tryz.ntmps102
      go_wp2_with fail
      refine (defines_any u.name (H.out.2.below ((Below.refl _ _).alloc (Nat.le_refl _) _)) hl').mono ?_
      rintro e w1 ⟨rfl, hb1⟩
      have HB : Hid (Below w.heap.size w w1) := below_alloc hb1
      clear hb1
      go_wp2_with fail
      go_ret
      exact ⟨ret_bool HE.out.symm, HB.out⟩
theorem isWrong_at {w : World} {g c g' c' n : Nat} (u : Dsr.Us) (q : Bool) {us all : List Dsr.Us} (h : UsIn w g (us.take n)) (hl : (us.take n).length = n ∧ n ≤ 1000) (h' : UsIn w g' all) (hl' : all.length ≤ 1000) (hq : Dsr.isWrong u (us.take n) all = q) {cs : Array Value} :
    Calls Tryz.prog 102 #[usV u, .slice (some ⟨g, 0, none⟩) n c, .slice (some ⟨g', 0, none⟩) all.length c'] (w.alloc (.cells cs 199)).drew fun x w' => x = .returned (.bool q) ∧ Below (w.alloc (.cells cs 199)).drew.heap.size (w.alloc (.cells cs 199)).drew w' := by
  have hb : Below w.heap.size w (w.alloc (.cells cs 199)).drew := ((Below.refl _ _).alloc (Nat.le_refl _) _).drew
  have := isWrong_any (c := c) (c' := c') u (h.below hb) (by omega) (h'.below hb) hl'
  rw [hl.1, hq] at this
  exact this
theorem below_alloc_drew {w w1 : World} {o : Obj} (hb : Below (w.alloc o).drew.heap.size (w.alloc o).drew w1) : Below w.heap.size w w1 :=
  (((Below.refl _ _).alloc (Nat.le_refl _) _).drew).trans (hb.mono (by show _ ≤ (w.alloc o).heap.size; simp))
theorem local_at {w w1 : World} {c0 c1 c2 c3 : Value} {T : TypeId} (hb : Below (w.alloc (.cells #[c0, c1, c2, c3] T)).drew.heap.size (w.alloc (.cells #[c0, c1, c2, c3] T)).drew w1) : w1.cell? ⟨w.heap.size, 3, none⟩ = some c3 := by
  rw [hb.cell (p := ⟨w.heap.size, 3, none⟩) (by show _ < (w.alloc _).heap.size; simp)]
  show (w.alloc _).cell? _ = _
  simp
theorem cells2 {w : World} {b : Nat} {c0 c1 : Value} {T : TypeId} (h : w.heap[b]? = some (.cells #[c0, c1] T (0, 0))) :
    w.cell? ⟨b, 0, none⟩ = some c0 ∧ w.cell? ⟨b, 1, none⟩ = some c1 ∧ ∀ o, w.frozen? ⟨b, o, none⟩ = false := by
  refine ⟨?_, ?_, ?_⟩
  · simp [World.cell?, h]
  · simp [World.cell?, h]
  · intro o; simp [World.frozen?, h]
/-- A fault as a value: none, or a wrong name. -/
def faultV : Option Nat → Value
  | none => .agg #[.int .i64 0, .int .i64 0]
  | some a => .agg #[.int .i64 4, .int .i64 a]
set_option maxRecDepth 100000 in
set_option maxHeartbeats 1600000 in
theorem wrongName_some {w : World} {g c : Nat} {us : List Dsr.Us} (h : UsIn w g us) (hl : us.length ≤ 1000) (hc : us.length ≤ c) :
    Calls Tryz.prog 65 #[.slice (some ⟨g, 0, none⟩) us.length c] w fun x w' => x = .returned (faultV (Dsr.wrongName us)) ∧ Below w.heap.size w w' := by
  have H : Hid (UsIn w g us) := h
  have hz : (us.length : Int) ≤ 1000 := by omega
  have hcz : (us.length : Int) ≤ (c : Int) := by omega
  have hg : g < w.heap.size := h.lt
  clear h
  go_enter Tryz.func65, Tryz.ntmps65
  go_wp2_with fail
  go_loopg [7] us.length (fun k i wr => ∃ n : Nat, i = .int .i64 n ∧ n + k = us.length ∧ Dsr.wrongFrom us k n = Dsr.wrongName us ∧ Below w.heap.size w wr ∧ w.heap.size < wr.heap.size ∧ wr.heap[w.heap.size]? = some (.cells #[.int .i64 0, .int .i64 0] 93 (0, 0)))
  case atStart => exact ⟨0, rfl, by omega, rfl, (Below.refl _ _).alloc (Nat.le_refl _) _, by simp, heap_alloc_new _ _⟩
  case round =>
    obtain ⟨n, rfl, hn, ha, hb, hsz, hF⟩ := hrel
    by_cases hlt : n < us.length
    · obtain ⟨u, hu⟩ : ∃ u, us[n]? = some u := ⟨_, List.getElem?_eq_getElem hlt⟩
      obtain ⟨d0, d1, d2, d3⟩ := us_cells (H.out.below hb) hu
      obtain ⟨m, rfl⟩ : ∃ m, gk = m + 1 := ⟨gk - 1, by omega⟩
      have ha' := ha
      rw [Dsr.wrongFrom, hu] at ha'
      have HH : Hid (us[n]? = some u ∧ (if Dsr.isWrong u (us.take n) us then some u.at_ else Dsr.wrongFrom us m (n + 1)) = Dsr.wrongName us ∧ Below w.heap.size w wr ∧ wr.heap[w.heap.size]? = some (.cells #[.int .i64 0, .int .i64 0] 93 (0, 0))) := ⟨hu, ha', hb, hF⟩
      clear hu ha ha' hb hF
      rcases hq : Dsr.isWrong u (us.take n) us with _ | _
      · have HQ : Hid (Dsr.isWrong u (us.take n) us = false) := hq
        clear hq
        go_wp2_with fail
        go_region_with (go_at_call 102; refine (isWrong_at (n := n) u (false) ((H.out.below HH.out.2.2.1).take n (by omega)) (by simp; omega) (H.out.below HH.out.2.2.1) (by omega) HQ.out).mono ?_; rintro e w1 ⟨rfl, hb1⟩)
        all_goals
          have HB : Hid (Below wr.heap.size wr w1) := below_alloc_drew hb1
          clear hb1
          go_wp2_with fail
          go_roundg m
          case measure => omega
          case rel =>
            have b1 := HB.out
            have e1 := HH.out.2.1
            rw [HQ.out] at e1
            exact ⟨n + 1, by go_num, by omega, e1, HH.out.2.2.1.trans (b1.mono (by have := HH.out.2.2.1.size; omega)), by have := b1.size; omega, by rw [b1.block _ hsz]; exact HH.out.2.2.2⟩
      · have HQ : Hid (Dsr.isWrong u (us.take n) us = true) := hq
        clear hq
        go_wp2_with fail
        go_region_with (go_at_call 102; refine (isWrong_at (n := n) u (true) ((H.out.below HH.out.2.2.1).take n (by omega)) (by simp; omega) (H.out.below HH.out.2.2.1) (by omega) HQ.out).mono ?_; rintro e w1 ⟨rfl, hb1⟩)
        all_goals
          have HB : Hid (Below wr.heap.size wr w1) := below_alloc_drew hb1
          have l3 : w1.cell? ⟨wr.heap.size, 3, none⟩ = some (.int .i64 u.at_) := local_at hb1
          obtain ⟨f0, f1, ff⟩ := cells2 ((HB.out.block _ hsz).trans HH.out.2.2.2)
          clear hb1
          have hsz1 : w.heap.size < w1.heap.size := by have := HB.out.size; omega
          go_wp2_with fail
          have b1 := HB.out
          have e1 := HH.out.2.1
          rw [HQ.out] at e1
          refine bodyPost_ret (v := .agg #[.int .i64 4, .int .i64 u.at_]) (by simp [results, Tryz.results65, go_sem, f0, f1, ff]) rfl ⟨by rw [← e1]; rfl, ?_⟩
          exact ((HH.out.2.2.1.trans (b1.mono (by have := HH.out.2.2.1.size; omega))).setCell (by simp) _).setCell (by simp) _
    · have HH : Hid (Dsr.wrongName us = none ∧ Below w.heap.size w wr) := ⟨by
        rw [← ha]
        rcases gk with _ | m
        · rfl
        · rw [Dsr.wrongFrom, List.getElem?_eq_none (by omega)], hb⟩
      obtain ⟨f0, f1, ff⟩ := cells2 hF
      clear ha hb hF
      go_wp2_with fail
      refine bodyPost_ret (v := .agg #[.int .i64 0, .int .i64 0]) (by simp [results, Tryz.results65, go_sem, f0, f1, ff]) rfl ⟨by rw [HH.out.1]; rfl, ?_⟩
      exact (HH.out.2.setCell (by simp) _).setCell (by simp) _
set_option maxRecDepth 100000 in
set_option maxHeartbeats 1600000 in
theorem wrongName_nil {w : World} :
    Calls Tryz.prog 65 #[.slice none 0 0] w fun x w' => x = .returned (faultV none) ∧ Below w.heap.size w w' := by
  go_enter Tryz.func65, Tryz.ntmps65
  go_wp2_with fail
  refine wp_loop_rounds 1 ?_
  rw [rounds_succ]
  go_wp2_with fail
  exact bodyPost_ret (v := .agg #[.int .i64 0, .int .i64 0]) (by simp [results, Tryz.results65, go_sem]) rfl ⟨rfl, by repeat (first | refine Below.setCell ?_ (by simp) _ | exact (Below.refl _ _).alloc (Nat.le_refl _) _)⟩
end Go.Proofs.YtjmcokcdaddpcaaGreatDoor
set_option linter.unusedVariables false
set_option linter.unusedSimpArgs false
namespace Go.Proofs.YtjmcokcdaddpcaaGreatDoor
open Go.RowKit
theorem below_dn {B : Nat} {a w : World} (h : Below B a w) (n : Nat) : Below B a (w.drewN n) := ⟨h.os, h.tape, h.output, h.size, h.block⟩
theorem ru_str (l rr s : List UInt8) : (⟨l.toArray⟩ ++ ⟨[32].toArray⟩ ++ ⟨s.toArray⟩ ++ ⟨[32].toArray⟩ ++ ⟨rr.toArray⟩ ++ ⟨[59, 10].toArray⟩ : ByteArray) = ⟨(l ++ [32] ++ s ++ [32] ++ rr ++ [59, 10]).toArray⟩ := by
  simp only [ByteArray.mk_append_mk]
set_option maxRecDepth 100000 in
set_option maxHeartbeats 1600000 in
theorem ruLine_any {w : World} (r : Dsr.Rl) (hk : r.kind < 5) (hl : r.left.length ≤ 1000) (hr : r.right.length ≤ 1000) (hS : SignsIn w) :
    Calls Tryz.prog 69 #[.agg #[strV r.left, strV r.right, .int .u8 r.kind]] w fun x w' => x = .returned (strV (Dsr.ruLine r)) ∧ Below w.heap.size w w' := by
  obtain ⟨h0, c0, c1, c2, c3, c4⟩ := hS
  obtain ⟨l, rr, k⟩ := r
  simp only at hk hl hr
  have hl' : (l.length : Int) ≤ 1000 := by omega
  have hr' : (rr.length : Int) ≤ 1000 := by omega
  rcases k with _ | _ | _ | _ | _ | k
  · go_enter Tryz.func69, Tryz.ntmps69
    go_wp2_with fail
    go_quiet (fail)
    go_wp2_with fail
    go_ret
    exact ⟨congrArg (fun s => Ending.returned (Value.string s)) (ru_str l rr [45, 62, 42]), below_dn ((Below.refl _ _).alloc (Nat.le_refl _) _) _⟩
  · go_enter Tryz.func69, Tryz.ntmps69
    go_wp2_with fail
    go_quiet (fail)
    go_wp2_with fail
    go_ret
    exact ⟨congrArg (fun s => Ending.returned (Value.string s)) (ru_str l rr [45, 62, 60, 62]), below_dn ((Below.refl _ _).alloc (Nat.le_refl _) _) _⟩
  · go_enter Tryz.func69, Tryz.ntmps69
    go_wp2_with fail
    go_quiet (fail)
    go_wp2_with fail
    go_ret
    exact ⟨congrArg (fun s => Ending.returned (Value.string s)) (ru_str l rr [42, 45, 62]), below_dn ((Below.refl _ _).alloc (Nat.le_refl _) _) _⟩
  · go_enter Tryz.func69, Tryz.ntmps69
    go_wp2_with fail
    go_quiet (fail)
    go_wp2_with fail
    go_ret
    exact ⟨congrArg (fun s => Ending.returned (Value.string s)) (ru_str l rr [45, 62, 43]), below_dn ((Below.refl _ _).alloc (Nat.le_refl _) _) _⟩
  · go_enter Tryz.func69, Tryz.ntmps69
    go_wp2_with fail
    go_quiet (fail)
    go_wp2_with fail
    go_ret
    exact ⟨congrArg (fun s => Ending.returned (Value.string s)) (ru_str l rr [45, 62, 37]), below_dn ((Below.refl _ _).alloc (Nat.le_refl _) _) _⟩
  · omega
end Go.Proofs.YtjmcokcdaddpcaaGreatDoor
namespace Go.Proofs.YtjmcokcdaddpcaaGreatDoor
open Go.RowKit
theorem write_any (B b : Nat) (bs : List Value) (s : ByteArray) (w : World) (h : Lib.IsBuilder 142 5 B b bs w) (hlen : bs.length + s.size ≤ 140737488355328) (hBw : B ≤ w.heap.size) :
    Calls Tryz.prog 67 #[.pointer (some ⟨b, 0, none⟩), .string s] w fun e w' => e = .returned (.tuple #[.int .i64 s.size, .nilIface]) ∧ (Lib.BuilderAt 142 5 B b (.pointer (some ⟨b, 0, none⟩)) (bs ++ Lib.strCells s) w' ∧ Below B w w') :=
  Go.Proofs.Any.Builder_WriteString { Tryz.lays156 with } Tryz.Builder_Extra_156 B b bs s w h hlen hBw
end Go.Proofs.YtjmcokcdaddpcaaGreatDoor
