import Derived.Test.YtjmcokcdaddpcaaGreatDoorUt
import Derived.Test.YtjmcokcdaddpcaaGreatDoorUi
import Derived.Test.YtjmcokcdaddpcaaGreatDoorUq
import Derived.Test.YtjmcokcdaddpcaaGreatDoorUs
set_option linter.unusedVariables false
set_option linter.unusedSimpArgs false
namespace Go.Proofs.YtjmcokcdaddpcaaGreatDoor
open Go.RowKit
def kinds3 : List Nat := [4, 3, 2]
def foldK (rs : List Dsr.Rl) (n : List UInt8) (es : List Dsr.Ev) (k : Nat) : List Dsr.Ev := Dsr.follow rs n k es
theorem nms_foldK (rs : List Dsr.Rl) (n : List UInt8) : ∀ (ks : List Nat) (es : List Dsr.Ev), nms (ks.foldl (foldK rs n) es) = nms es
  | [], es => rfl
  | k :: ks, es => (nms_foldK rs n ks _).trans (nms_follow n k rs es)
theorem GOk.foldK {rs : List Dsr.Rl} (n : List UInt8) : ∀ (ks : List Nat) (es : List Dsr.Ev), GOk es rs → GOk (ks.foldl (foldK rs n) es) rs
  | [], es, h => h
  | k :: ks, es, h => GOk.foldK n ks _ (GOk.fold n k rs es h)
theorem evPtr_in {es : List Dsr.Ev} {a : SA} {n : List UInt8} (h : n ∈ nms es) : evPtr es a n = ptr (ebOf (nms es) a.eb n) := if_pos h
theorem evPtr_out {es : List Dsr.Ev} {a : SA} {n : List UInt8} (h : n ∉ nms es) : evPtr es a n = .pointer none := if_neg h
theorem info_kind : (Tryz.prog.info? 133).map (·.size) = some 1 := by kernel_rfl
theorem idx3 (w : World) (i : Nat) (hi : i < 3) (x0 x1 x2 : Value) : (Instr.index 185 (.agg #[x0, x1, x2]) (.int .i64 i)).run Tryz.prog w = .ok ([x0, x1, x2].getD i undef) w := by
  obtain ⟨j, hj, hjs⟩ := Option.map_eq_some_iff.1 info_kind
  have hn : (0 : Int) ≤ (i : Int) ∧ (i : Int) < ((3 : Nat) : Int) := by omega
  rcases i with _ | _ | _ | i
  · simp [Instr.index, run_underlying Tryz.underlying185, asIntOf, go_sem, sizeOf, typeInfo, hj, hjs]
  · simp [Instr.index, run_underlying Tryz.underlying185, asIntOf, go_sem, sizeOf, typeInfo, hj, hjs]
  · simp [Instr.index, run_underlying Tryz.underlying185, asIntOf, go_sem, sizeOf, typeInfo, hj, hjs]
  · omega
section
variable {N : Nat} {w : World} {es : List Dsr.Ev} {rs : List Dsr.Rl} {a : SA}
theorem StAt.evIn {w' : World} (h : StAt N w es rs a) {b : Nat} {e : Dsr.Ev} {v : Value} (hb : w.heap[b]? = some (evB e v)) (hw : Below w.heap.size w w') : w'.heap[b]? = some (evB e v) := by
  rw [hw.block b (Array.getElem?_eq_some_iff.1 hb).1]; exact hb
set_option maxRecDepth 100000 in
set_option maxHeartbeats 1600000 in
theorem do_any (h : StAt N w es rs a) (hg : GOk es rs) {n : List UInt8} (hn : n ∈ nms es) :
    Calls Tryz.prog 59 #[ptr a.sb, strV n] w fun x w' => x = .returned (.tuple #[]) ∧ StAt N w' (Dsr.doP rs n es) rs a ∧ Kp (· ∈ a.eb) w w' := by
  have H : Hid (StAt N w es rs a ∧ GOk es rs ∧ n ∈ nms es) := ⟨h, hg, hn⟩
  clear h hg hn
  go_enter Tryz.func59, Tryz.ntmps59
  go_wp2_with fail
  refine (find_any H.out.1 H.out.2.1 n).mono ?_
  rintro x w1 ⟨rfl, b1⟩
  rw [evPtr_in H.out.2.2]
  have S1 := H.out.1.below b1
  have K1 : Kp (· ∈ a.eb) w w1 := (Kp.refl _ _).ofBelow b1
  obtain ⟨i, e, b, v, q1, q2, q3, q4, q5, q6⟩ := S1.at H.out.2.2
  have H1 : Hid (StAt N w1 es rs a ∧ Kp (· ∈ a.eb) w w1 ∧ es[i]? = some e ∧ e.name = n ∧ a.eb[i]? = some b ∧ a.rv[i]? = some v ∧ ebOf (nms es) a.eb n = b ∧ w1.heap[b]? = some (evB e v)) := ⟨S1, K1, q1, q2, q3, q4, q5, q6⟩
  rw [q5]
  clear S1 K1 q1 q2 q3 q4 q5 q6 b1
  go_wp2_with fail
  refine (evFinish_any H1.out.2.2.2.2.2.2.2).mono ?_
  rintro x w2 ⟨rfl, hw2, hk2⟩
  have S2 := H1.out.1.setN H.out.2.1 Dsr.finish (fun _ => rfl) (fun _ => rfl) H1.out.2.2.1 H1.out.2.2.2.1 H1.out.2.2.2.2.1 H1.out.2.2.2.2.2.1 hw2 hk2
  have K2 : Kp (· ∈ a.eb) w w2 := H1.out.2.1.trans hk2 (fun q hq => .inl (by subst hq; exact List.mem_of_getElem? H1.out.2.2.2.2.1))
  have hn2 : nms (Dsr.modN Dsr.finish n es) = nms es := nms_modN Dsr.finish (fun _ => rfl) n es
  have g2 : GOk (Dsr.modN Dsr.finish n es) rs := H.out.2.1.modN Dsr.finish (fun _ => rfl) (fun _ => rfl) n
  have H2 : Hid (StAt N w2 (Dsr.modN Dsr.finish n es) rs a ∧ Kp (· ∈ a.eb) w w2 ∧ nms (Dsr.modN Dsr.finish n es) = nms es ∧ GOk (Dsr.modN Dsr.finish n es) rs ∧ ebOf (nms es) a.eb n = b) := ⟨S2, K2, hn2, g2, H1.out.2.2.2.2.2.2.1⟩
  clear S2 K2 hn2 g2 hw2 hk2 H1
  go_wp2_with fail
  go_loopg [15] 3 (fun g iv wr => ∃ m : Nat, iv = .int .i64 m ∧ m + g = 3 ∧ StAt N wr ((kinds3.take m).foldl (foldK rs n) (Dsr.modN Dsr.finish n es)) rs a ∧ Kp (· ∈ a.eb) w wr)
  case atStart => exact ⟨0, rfl, by omega, H2.out.1, H2.out.2.1⟩
  case round =>
    obtain ⟨m, rfl, hm, hS, hK⟩ := hrel
    have hn3 := nms_foldK rs n (kinds3.take m) (Dsr.modN Dsr.finish n es)
    rw [H2.out.2.2.1] at hn3
    have g3 := GOk.foldK n (kinds3.take m) _ H2.out.2.2.2.1
    have HR : Hid (StAt N wr ((kinds3.take m).foldl (foldK rs n) (Dsr.modN Dsr.finish n es)) rs a ∧ Kp (· ∈ a.eb) w wr ∧ GOk ((kinds3.take m).foldl (foldK rs n) (Dsr.modN Dsr.finish n es)) rs ∧ n ∈ nms ((kinds3.take m).foldl (foldK rs n) (Dsr.modN Dsr.finish n es)) ∧ ebOf (nms ((kinds3.take m).foldl (foldK rs n) (Dsr.modN Dsr.finish n es))) a.eb n = b) := ⟨hS, hK, g3, by rw [hn3]; exact H.out.2.2, by rw [hn3]; exact H2.out.2.2.2.2⟩
    clear hS hK hn3 g3
    have HF : Hid (∀ k : Nat, 2 ≤ k → k < 5 → Calls Tryz.prog 92 #[ptr a.sb, ptr b, .int .u8 k] wr fun x w' => x = .returned (.tuple #[]) ∧ StAt N w' (Dsr.follow rs n k ((kinds3.take m).foldl (foldK rs n) (Dsr.modN Dsr.finish n es))) rs a ∧ Kp (· ∈ a.eb) w w') := fun k h2 h5 => by
      have L := follow_any HR.out.1 HR.out.2.2.1 HR.out.2.2.2.1 h2 h5
      rw [HR.out.2.2.2.2] at L
      exact L.mono (fun x w' ⟨e1, e2, e3⟩ => ⟨e1, e2, HR.out.2.1.trans e3 (fun k hk => .inl hk)⟩)
    rcases m with _ | _ | _ | m
    · have hx : (Instr.index 185 (.agg #[.int .u8 4, .int .u8 3, .int .u8 2]) (.int .i64 0)).run Tryz.prog wr = .ok (.int .u8 4) wr := idx3 wr 0 (by omega) _ _ _
      go_wp2_with fail
      refine (HF.out 4 (by omega) (by omega)).mono ?_
      rintro x w3 ⟨rfl, hS, hK⟩
      have H3 : Hid (StAt N w3 ((kinds3.take 1).foldl (foldK rs n) (Dsr.modN Dsr.finish n es)) rs a ∧ Kp (· ∈ a.eb) w w3) := ⟨hS, hK⟩
      clear hS hK
      go_wp2_with fail
      go_roundg 2
      case measure => omega
      case rel => exact ⟨1, by go_num, by omega, H3.out⟩
    · have hx : (Instr.index 185 (.agg #[.int .u8 4, .int .u8 3, .int .u8 2]) (.int .i64 1)).run Tryz.prog wr = .ok (.int .u8 3) wr := idx3 wr 1 (by omega) _ _ _
      go_wp2_with fail
      refine (HF.out 3 (by omega) (by omega)).mono ?_
      rintro x w3 ⟨rfl, hS, hK⟩
      have H3 : Hid (StAt N w3 ((kinds3.take 2).foldl (foldK rs n) (Dsr.modN Dsr.finish n es)) rs a ∧ Kp (· ∈ a.eb) w w3) := ⟨hS, hK⟩
      clear hS hK
      go_wp2_with fail
      go_roundg 1
      case measure => omega
      case rel => exact ⟨2, by go_num, by omega, H3.out⟩
    · have hx : (Instr.index 185 (.agg #[.int .u8 4, .int .u8 3, .int .u8 2]) (.int .i64 2)).run Tryz.prog wr = .ok (.int .u8 2) wr := idx3 wr 2 (by omega) _ _ _
      go_wp2_with fail
      refine (HF.out 2 (by omega) (by omega)).mono ?_
      rintro x w3 ⟨rfl, hS, hK⟩
      have H3 : Hid (StAt N w3 ((kinds3.take 3).foldl (foldK rs n) (Dsr.modN Dsr.finish n es)) rs a ∧ Kp (· ∈ a.eb) w w3) := ⟨hS, hK⟩
      clear hS hK
      go_wp2_with fail
      go_roundg 0
      case measure => omega
      case rel => exact ⟨3, by go_num, by omega, H3.out⟩
    · have hm0 : m = 0 := by omega
      subst hm0
      have HE : Hid (StAt N wr (Dsr.doP rs n es) rs a ∧ Kp (· ∈ a.eb) w wr) := ⟨HR.out.1, HR.out.2.1⟩
      go_wp2_with fail
      go_end0
      exact ⟨rfl, HE.out⟩
end
end Go.Proofs.YtjmcokcdaddpcaaGreatDoor
set_option linter.unusedVariables false
set_option linter.unusedSimpArgs false
namespace Go.Proofs.YtjmcokcdaddpcaaGreatDoor
open Go.RowKit
theorem evPtr_in' {es : List Dsr.Ev} {a : SA} {n : List UInt8} (h : n ∈ nms es) : evPtr es a n = ptr (ebOf (nms es) a.eb n) := if_pos h
theorem evPtr_out' {es : List Dsr.Ev} {a : SA} {n : List UInt8} (h : n ∉ nms es) : evPtr es a n = .pointer none := if_neg h
theorem ev_below {w w' : World} {b : Nat} {e : Dsr.Ev} {v : Value} (hb : w.heap[b]? = some (evB e v)) (hw : Below w.heap.size w w') : w'.heap[b]? = some (evB e v) := by
  rw [hw.block b (Array.getElem?_eq_some_iff.1 hb).1]; exact hb
theorem cells3S {w : World} {b : Nat} {c0 c1 c2 : Value} {T : TypeId} (h : w.heap[b]? = some (.cells #[c0, c1, c2] T (0, 0))) :
    w.cell? ⟨b, 0, none⟩ = some c0 ∧ w.cell? ⟨b, 1, none⟩ = some c1 ∧ w.cell? ⟨b, 2, none⟩ = some c2 ∧ ∀ o, w.frozen? ⟨b, o, none⟩ = false := by
  refine ⟨?_, ?_, ?_, fun o => ?_⟩ <;> simp [World.cell?, World.frozen?, h]
section
variable {N : Nat} {w : World} {es : List Dsr.Ev} {rs : List Dsr.Rl} {a : SA}
set_option maxRecDepth 100000 in
set_option maxHeartbeats 1600000 in
theorem verdict_any (h : StAt N w es rs a) (hg : GOk es rs) (role n : List UInt8) :
    Calls Tryz.prog 56 #[ptr a.sb, strV role, strV n] w fun x w' => x = .returned (.int .u8 (Dsr.verdictP es rs role n : Nat)) ∧ Below w.heap.size w w' := by
  have H : Hid (StAt N w es rs a ∧ GOk es rs) := ⟨h, hg⟩
  clear h hg
  go_enter Tryz.func56, Tryz.ntmps56
  go_wp2_with fail
  refine (find_any H.out.1 H.out.2 n).mono ?_
  rintro x w1 ⟨rfl, b1⟩
  by_cases hn : n ∈ nms es
  · rw [evPtr_in' hn]
    have S1 := H.out.1.below b1
    obtain ⟨i, e, b, v, q1, q2, q3, q4, q5, q6⟩ := S1.at hn
    obtain ⟨⟨Br, ho⟩, hlo⟩ := S1.rol i e v q1 q4
    obtain ⟨va, vc, rfl⟩ := owned_shape ho
    have hbl : b < w1.heap.size := (Array.getElem?_eq_some_iff.1 q6).1
    obtain ⟨e0, e1, e2, e3, e4, ef⟩ := evB_cells q6
    have HF : Hid (Dsr.findE es n = some e) := find_idx H.out.2.nodup q1 q2
    have H1 : Hid (StAt N w1 es rs a ∧ Below w.heap.size w w1 ∧ n ∈ nms es ∧ ebOf (nms es) a.eb n = b ∧ w1.heap[b]? = some (evB e (.slice va e.roles.length vc)) ∧ w1.ownsRow Br 9 1 (.slice va e.roles.length vc) e.roles.length (e.roles.map strV) ∧ e.roles.length ≤ 1000) := ⟨S1, b1, hn, q5, q6, ho, H.out.2.rol e (List.mem_of_getElem? q1)⟩
    rw [q5]
    clear S1 b1 hn q1 q2 q3 q4 q5 q6 ho hlo
    go_wp2_with fail
    refine (slContains_any e.roles H1.out.2.2.2.2.2.1 H1.out.2.2.2.2.2.2 role).mono ?_
    rintro x w2 ⟨rfl, b2⟩
    have q7 := ev_below H1.out.2.2.2.2.1 b2
    clear e0 e1 e2 e3 e4 ef
    obtain ⟨e0, e1, e2, e3, e4, ef⟩ := evB_cells q7
    have hbl2 : b < w2.heap.size := (Array.getElem?_eq_some_iff.1 q7).1
    have H2 : Hid (StAt N w2 es rs a ∧ Below w.heap.size w w2) := ⟨H1.out.1.below b2, H1.out.2.1.trans (b2.mono H1.out.2.1.size)⟩
    clear b2 q7
    rcases hc : e.roles.contains role with _ | _
    · have HC : Hid (Dsr.verdictP es rs role n = 2) := by
        show _ = _
        unfold Dsr.verdictP
        rw [HF.out]
        exact if_pos hc
      clear hc
      go_wp2_with fail
      go_ret
      exact ⟨by rw [HC.out]; rfl, H2.out.2⟩
    · rcases hi : e.inn with _ | _
      · have HC : Hid (Dsr.verdictP es rs role n = 3) := by
          show _ = _
          unfold Dsr.verdictP
          rw [HF.out]
          exact (if_neg (by rw [hc]; decide)).trans (if_pos hi)
        rw [hi] at e3
        clear hc hi
        go_wp2_with fail
        go_ret
        exact ⟨by rw [HC.out]; rfl, H2.out.2⟩
      · have HC : Hid (Dsr.verdictP es rs role n = if Dsr.blockedP es rs n then 4 else 0) := by
          show _ = _
          unfold Dsr.verdictP
          rw [HF.out]
          exact (if_neg (by rw [hc]; decide)).trans (if_neg (by rw [hi]; decide))
        rw [hi] at e3
        clear hc hi
        go_wp2_with fail
        have L := isBlocked_any H2.out.1 H.out.2 H1.out.2.2.1
        rw [H1.out.2.2.2.1] at L
        refine L.mono ?_
        rintro x w3 ⟨rfl, b3⟩
        clear L
        have H3 : Hid (Below w.heap.size w w3) := H2.out.2.trans (b3.mono H2.out.2.size)
        clear b3
        rcases hbk : Dsr.blockedP es rs n with _ | _
        · have HD : Hid (Dsr.verdictP es rs role n = 0) := by show _ = _; rw [HC.out, hbk]; rfl
          clear hbk
          go_wp2_with fail
          go_ret
          exact ⟨by rw [HD.out]; rfl, H3.out⟩
        · have HD : Hid (Dsr.verdictP es rs role n = 4) := by show _ = _; rw [HC.out, hbk]; rfl
          clear hbk
          go_wp2_with fail
          go_ret
          exact ⟨by rw [HD.out]; rfl, H3.out⟩
  · rw [evPtr_out' hn]
    have HC : Hid (Dsr.verdictP es rs role n = 1 ∧ Below w.heap.size w w1) := ⟨by unfold Dsr.verdictP; rw [find_none hn], b1⟩
    clear hn b1
    go_wp2_with fail
    go_ret
    exact ⟨by rw [HC.out.1]; rfl, HC.out.2⟩
abbrev markV (d i u : Bool) : Value := .agg #[.bool d, .bool i, .bool u]
def markOf (o : Option Dsr.Ev) : Value := match o with
  | some e => markV e.done e.inn e.due
  | none => markV false false false
set_option maxRecDepth 100000 in
set_option maxHeartbeats 1600000 in
theorem stMark_any (h : StAt N w es rs a) (hg : GOk es rs) (n : List UInt8) :
    Calls Tryz.prog 55 #[ptr a.sb, strV n] w fun x w' => x = .returned (.tuple #[markOf (Dsr.findE es n), .bool (Dsr.findE es n).isSome]) ∧ Below w.heap.size w w' := by
  have H : Hid (StAt N w es rs a ∧ GOk es rs) := ⟨h, hg⟩
  clear h hg
  go_enter Tryz.func55, Tryz.ntmps55
  go_wp2_with fail
  refine (find_any (H.out.1.alloc _) H.out.2 n).mono ?_
  rintro x w1 ⟨rfl, b1⟩
  have p1 : w1.heap[w.heap.size]? = some (.cells #[.bool false, .bool false, .bool false] 48 (0, 0)) := (b1.block _ (by simp)).trans (heap_alloc_new _ _)
  have hwl : w.heap.size < w1.heap.size := (Array.getElem?_eq_some_iff.1 p1).1
  obtain ⟨m0, m1, m2, mf⟩ := cells3S p1
  have hb1 : Below w.heap.size w w1 := below_alloc b1
  by_cases hn : n ∈ nms es
  · rw [evPtr_in' hn]
    have S1 := H.out.1.below hb1
    obtain ⟨i, e, b, v, q1, q2, q3, q4, q5, q6⟩ := S1.at hn
    have hbl : b < w1.heap.size := (Array.getElem?_eq_some_iff.1 q6).1
    obtain ⟨e0, e1, e2, e3, e4, ef⟩ := evB_cells q6
    have HF : Hid (Dsr.findE es n = some e ∧ Below w.heap.size w w1) := ⟨find_idx H.out.2.nodup q1 q2, hb1⟩
    have hbw : ¬ b = w.heap.size := fun e => by have := (S1.ebLt (List.mem_of_getElem? q3)); have := (H.out.1.ebLt (List.mem_of_getElem? q3)).2; omega
    rw [q5]
    clear S1 b1 hb1 hn q1 q2 q3 q4 q5 q6
    go_wp2_with fail
    refine bodyPost_ret (v := .tuple #[markV e.done e.inn e.due, .bool true]) (by simp [results, Tryz.results55, go_sem, m0, m1, m2, mf]) rfl ⟨by rw [HF.out.1]; rfl, ?_⟩
    exact ((HF.out.2.setCell (p := ⟨w.heap.size, 0, none⟩) (Nat.le_refl _) _).setCell (p := ⟨w.heap.size, 1, none⟩) (Nat.le_refl _) _).setCell (p := ⟨w.heap.size, 2, none⟩) (Nat.le_refl _) _
  · rw [evPtr_out' hn]
    have HC : Hid (Dsr.findE es n = none ∧ Below w.heap.size w w1) := ⟨find_none hn, hb1⟩
    clear hn b1 hb1
    go_wp2_with fail
    refine bodyPost_ret (v := .tuple #[markV false false false, .bool false]) (by simp [results, Tryz.results55, go_sem, m0, m1, m2, mf]) rfl ⟨by rw [HC.out.1]; rfl, ?_⟩
    exact ((HC.out.2.setCell (p := ⟨w.heap.size, 0, none⟩) (Nat.le_refl _) _).setCell (p := ⟨w.heap.size, 1, none⟩) (Nat.le_refl _) _).setCell (p := ⟨w.heap.size, 2, none⟩) (Nat.le_refl _) _
end
end Go.Proofs.YtjmcokcdaddpcaaGreatDoor
set_option linter.unusedVariables false
set_option linter.unusedSimpArgs false
namespace Go.Proofs.YtjmcokcdaddpcaaGreatDoor
open Go.RowKit
set_option maxRecDepth 100000 in
set_option maxHeartbeats 1600000 in
/-- A number behind a full slice. -/
theorem recNumber_full {B : Nat} {w : World} {g : Nat} {bs : List UInt8} {k : Nat} (hk : bs.length = k) (h : ∀ j c, bs[j]? = some c → w.cell? ⟨g, j, none⟩ = some (byV c)) (hg : g < w.heap.size) (hl : bs.length ≤ 1000) (hB : B ≤ w.heap.size) (n : Nat) (hn : n < 4294967296) :
    Calls Tryz.prog 88 #[.slice (some ⟨g, 0, none⟩) k k, .int .u32 n] w fun x w' => ∃ a m c, x = .returned (.slice a m c) ∧ BStep B w w' (.slice a m c) (bs ++ Dsr.four n) := by
  have HC : Hid (∀ o, ∀ j c, bs[j]? = some c → (w.alloc o).cell? ⟨g, j, none⟩ = some (byV c)) := fun o j c hj => by
    rw [(show Below w.heap.size w (w.alloc o) from (Below.refl _ _).alloc (Nat.le_refl _) _).cell (p := ⟨g, j, none⟩) hg]; exact h j c hj
  have hc : Hid ((Dsr.four n).map byV = [.int .u8 ((n : Int) / 16777216), .int .u8 ((n : Int) / 65536 % 256), .int .u8 ((n : Int) / 256 % 256), .int .u8 ((n : Int) % 256)]) := four_cells n hn
  clear h
  go_enter Tryz.func88, Tryz.ntmps88
  go_wp2_with (at_builtin; refine wpList_append_full rfl (.tmp 5) (.tmp 17) rfl B g k bs (by simp [Act.eval, Act.put]) hk (HC.out _) ⟨w.heap.size, 0, none⟩ 4 4 (Dsr.four n) (by simp [Act.eval, Act.put]) rfl (by decide) (by rw [hc.out]; exact news_blkN rfl) (by omega) (by simp; omega) ?_; intro cap w5 hown hbel)
  have HS : Hid (BStep B w w5 (.slice (some ⟨w.heap.size + 1, 0, none⟩) (k + 4) cap) (bs ++ Dsr.four n)) := ⟨by simpa using hown, ((Below.refl _ _).alloc hB _).trans hbel⟩
  clear hown hbel hc HC
  go_wp2_with fail
  go_ret
  exact ⟨_, _, _, rfl, HS.out⟩
/-- Next, under way: its receiver and its result's block are as they were laid. -/
structure Mid (w wk : World) (num len hsh : Nat) : Prop where
  p0 : wk.heap[w.heap.size]? = some (.cells #[.int .u32 num, .int .i64 len, .int .u32 hsh] 112 (0, 0))
  p1 : wk.heap[w.heap.size + 1]? = some (.cells #[.int .u32 0, .int .i64 0, .int .u32 0] 112 (0, 0))
  bel : Below w.heap.size w wk
  sz : w.heap.size + 2 ≤ wk.heap.size
theorem Mid.step {w wk wl : World} {num len hsh : Nat} (h : Mid w wk num len hsh) (hb : Below (w.heap.size + 2) wk wl) : Mid w wl num len hsh :=
  ⟨(hb.block _ (by omega)).trans h.p0, (hb.block _ (by omega)).trans h.p1, h.bel.trans (hb.mono (by omega)), Nat.le_trans h.sz hb.size⟩
theorem Mid.cells {w wk : World} {num len hsh : Nat} (h : Mid w wk num len hsh) : w.heap.size < wk.heap.size ∧ w.heap.size + 1 < wk.heap.size ∧
    (wk.cell? ⟨w.heap.size, 0, none⟩ = some (.int .u32 num) ∧ wk.cell? ⟨w.heap.size, 1, none⟩ = some (.int .i64 len) ∧ wk.cell? ⟨w.heap.size, 2, none⟩ = some (.int .u32 hsh) ∧ ∀ o, wk.frozen? ⟨w.heap.size, o, none⟩ = false) ∧
    (wk.cell? ⟨w.heap.size + 1, 0, none⟩ = some (.int .u32 0) ∧ wk.cell? ⟨w.heap.size + 1, 1, none⟩ = some (.int .i64 0) ∧ wk.cell? ⟨w.heap.size + 1, 2, none⟩ = some (.int .u32 0) ∧ ∀ o, wk.frozen? ⟨w.heap.size + 1, o, none⟩ = false) :=
  ⟨by have := h.sz; omega, by have := h.sz; omega, cells3L h.p0, cells3L h.p1⟩
theorem mid_begin (w : World) (num len hsh : Nat) (o : Obj) : Mid w (((w.alloc (.cells #[.int .u32 num, .int .i64 len, .int .u32 hsh] 112)).alloc (.cells #[.int .u32 0, .int .i64 0, .int .u32 0] 112)).alloc o) num len hsh := by
  refine ⟨?_, ?_, ?_, by simp⟩
  · exact (Below.heap_alloc _ _ _ (by simp; omega)).trans ((Below.heap_alloc _ _ _ (by simp)).trans (heap_alloc_new _ _))
  · exact (Below.heap_alloc _ _ _ (by simp)).trans (by have := heap_alloc_new (w.alloc (.cells #[.int .u32 num, .int .i64 len, .int .u32 hsh] 112)) (.cells #[.int .u32 0, .int .i64 0, .int .u32 0] 112); simpa using this)
  · exact (((Below.refl _ _).alloc (Nat.le_refl _) _).alloc (by simp) _).alloc (by simp; omega) _
theorem one_cell {w : World} {g : Nat} (hg : g = w.heap.size) : ∀ j c, [(82 : UInt8)][j]? = some c → (w.alloc (.cells #[.int .u8 82] 5 (1, 2))).cell? ⟨g, j, none⟩ = some (byV c) := fun j c hj => by
  subst hg
  rw [cell_of_row _ _ _ _ _ _ (heap_alloc_new w _)]
  rcases j with _ | j
  · simp at hj; subst hj; rfl
  · simp at hj
set_option maxRecDepth 100000 in
set_option maxHeartbeats 1600000 in
theorem recNext_any (w : World) (num len hsh : Nat) (role ev : List UInt8) (v : Nat) (hnum : num + 1 < 4294967296) (hlen : len ≤ 1000000) (hh : hsh < 4294967296) (hr : role.length ≤ 8) (he : ev.length ≤ 8) (hv : v ≤ 4) :
    Calls Tryz.prog 57 #[endV num len hsh, strV role, strV ev, .int .u8 v] w fun x w' => ∃ a m c, x = .returned (.tuple #[.slice a m c, endV (num + 1) (len + m) (Dsr.hash (Dsr.recOf (num + 1) hsh role ev v))]) ∧ BOwn w.heap.size w' (.slice a m c) (Dsr.sealed (Dsr.recOf (num + 1) hsh role ev v)) ∧ Below w.heap.size w w' := by
  obtain ⟨i0, hi, hz0, hz1, hz2⟩ := info_parts info_u8
  have hnI : (num : Int) + 1 < 4294967296 := by omega
  have hlI : (len : Int) ≤ 1000000 := by omega
  have hvI : (v : Int) ≤ 4 := by omega
  have hcv := Go.Joins.run_convert_bytes_const_at (P := Tryz.prog) ((w.alloc (.cells #[.int .u32 num, .int .i64 len, .int .u32 hsh] 112)).alloc (.cells #[.int .u32 0, .int .i64 0, .int .u32 0] 112)) 27 5 #[.int .u8 82] 1 1 (w.heap.size + 1 + 1) (by simp) Tryz.underlying27 Tryz.underlying5
  go_enter Tryz.func57, Tryz.ntmps57
  go_wp2_with fail
  refine (recNumber_full (B := w.heap.size + 2) (g := w.heap.size + 1 + 1) (bs := [82]) (k := 1) rfl ?hc (by simp) (by decide) (by simp) (num + 1) hnum).mono ?_
  case hc => exact one_cell (by simp)
  rintro x w1 ⟨a1, m1, c1, rfl, hs⟩
  have M1 : Mid w w1 num len hsh := (mid_begin w num len hsh _).step hs.bel
  have H1 : Hid (Mid w w1 num len hsh ∧ BOwn (w.heap.size + 2) w1 (.slice a1 m1 c1) ([82] ++ Dsr.four (num + 1))) := ⟨M1, hs.own⟩
  obtain ⟨hl0, hl1, ⟨x0, x1, x2, xf⟩, ⟨y0, y1, y2, yf⟩⟩ := M1.cells
  clear hs M1 hcv
  go_wp2_with fail
  refine (recNumber_any H1.out.2 (by simp [Dsr.four]) H1.out.1.sz hsh hh).mono ?_
  rintro x w2 ⟨a2, m2, c2, rfl, hs⟩
  have M2 : Mid w w2 num len hsh := H1.out.1.step hs.bel
  have H2 : Hid (Mid w w2 num len hsh ∧ BOwn (w.heap.size + 2) w2 (.slice a2 m2 c2) ([82] ++ Dsr.four (num + 1) ++ Dsr.four hsh)) := ⟨M2, hs.own⟩
  clear hl0 hl1 x0 x1 x2 xf y0 y1 y2 yf
  obtain ⟨hl0, hl1, ⟨x0, x1, x2, xf⟩, ⟨y0, y1, y2, yf⟩⟩ := M2.cells
  clear hs M2 H1
  go_wp2_with fail
  refine (recText_any H2.out.2 (by simp [Dsr.four]) H2.out.1.sz role (by omega)).mono ?_
  rintro x w3 ⟨a3, m3, c3, rfl, hs⟩
  have M3 : Mid w w3 num len hsh := H2.out.1.step hs.bel
  have H3 : Hid (Mid w w3 num len hsh ∧ BOwn (w.heap.size + 2) w3 (.slice a3 m3 c3) ([82] ++ Dsr.four (num + 1) ++ Dsr.four hsh ++ [Dsr.byte role.length] ++ role)) := ⟨M3, hs.own⟩
  clear hl0 hl1 x0 x1 x2 xf y0 y1 y2 yf
  obtain ⟨hl0, hl1, ⟨x0, x1, x2, xf⟩, ⟨y0, y1, y2, yf⟩⟩ := M3.cells
  clear hs M3 H2
  go_wp2_with fail
  refine (recText_any H3.out.2 (by simp [Dsr.four]; omega) H3.out.1.sz ev (by omega)).mono ?_
  rintro x w4 ⟨a4, m4, c4, rfl, hs⟩
  have M4 : Mid w w4 num len hsh := H3.out.1.step hs.bel
  have H4 : Hid (Mid w w4 num len hsh ∧ BOwn (w.heap.size + 2) w4 (.slice a4 m4 c4) ([82] ++ Dsr.four (num + 1) ++ Dsr.four hsh ++ [Dsr.byte role.length] ++ role ++ [Dsr.byte ev.length] ++ ev)) := ⟨M4, hs.own⟩
  clear hl0 hl1 x0 x1 x2 xf y0 y1 y2 yf
  obtain ⟨hl0, hl1, ⟨x0, x1, x2, xf⟩, ⟨y0, y1, y2, yf⟩⟩ := M4.cells
  have hm4 := hs.own.len
  clear hs M4 H3
  obtain ⟨bs4, hbs4⟩ : ∃ bs4, bs4 = [82] ++ Dsr.four (num + 1) ++ Dsr.four hsh ++ [Dsr.byte role.length] ++ role ++ [Dsr.byte ev.length] ++ ev := ⟨_, rfl⟩
  have hl4 : bs4.length ≤ 100 := by rw [hbs4]; simp [Dsr.four]; omega
  have HB4 : Hid (bs4 = [82] ++ Dsr.four (num + 1) ++ Dsr.four hsh ++ [Dsr.byte role.length] ++ role ++ [Dsr.byte ev.length] ++ ev) := hbs4
  rw [← hbs4] at H4 hm4
  subst hm4
  clear hbs4
  have hcb : Hid ([Value.int .u8 (v : Int)] = [Dsr.byte v].map byV) := by
    show _ = _
    simp only [List.map_cons, List.map_nil, byV_byte]
    congr 2
    omega
  go_wp2_with (at_builtin; refine wpList_append_lies _ rfl (.tmp 29) (.tmp 31) 27 rfl (w.heap.size + 2) 5 i0 _ 1 1 Tryz.underlying27 hi hz0 hz1 hz2 rfl (by decide) (.slice a4 bs4.length c4) bs4.length _ (by simp [Act.eval, Act.put]) (World.ownsRow.alloc H4.out.2 _) ⟨w4.heap.size, 0, none⟩ 1 1 [.int .u8 (v : Int)] (by simp [Act.eval, Act.put]) rfl (by exact news_blk (heap_alloc_new _ _)) (one_int (by simp)) (by decide) (by unfold maxLen; omega) (by omega) (by simp; omega) _ rfl ?_; intro g cap w5 hown hgrow hat hlt5; obtain ⟨HS, HO, hB5⟩ := one_step H4.out.2 H4.out.1.sz hcb.out hown hgrow; clear hown hgrow hat)
  refine (recSeal_any HS.out.own (by simp; omega) hB5).mono ?_
  rintro x w6 ⟨a6, m6, c6, rfl, hs⟩
  have M6 : Mid w w6 num len hsh := (H4.out.1.step HS.out.bel).step hs.bel
  have e6 : bs4 ++ [Dsr.byte v] = Dsr.recOf (num + 1) hsh role ev v := by rw [HB4.out]; rfl
  have hm6 := hs.own.len
  rw [Dsr.sealed_len] at hm6
  have hm6' : (m6 : Int) ≤ 1000 := by rw [hm6]; simp; omega
  rw [e6] at hs ⊢
  have H6 : Hid (Mid w w6 num len hsh ∧ BOwn (w.heap.size + 2) w6 (.slice a6 m6 c6) (Dsr.sealed (Dsr.recOf (num + 1) hsh role ev v))) := ⟨M6, hs.own⟩
  clear hl0 hl1 x0 x1 x2 xf y0 y1 y2 yf
  obtain ⟨hl0, hl1, ⟨x0, x1, x2, xf⟩, ⟨y0, y1, y2, yf⟩⟩ := M6.cells
  clear hs M6 H4 HS HO e6 hm6 hcb HB4
  go_wp2_with fail
  go_region
  all_goals
    go_wp2_with fail
    refine bodyPost_ret (v := .tuple #[.slice a6 m6 c6, endV (num + 1) (len + m6) (Dsr.hash (Dsr.recOf (num + 1) hsh role ev v))]) (by simp [results, Tryz.results57, go_sem, y0, y1, y2, yf]) rfl ⟨_, _, _, rfl, ?_, ?_⟩
    · exact Go.Joins.ownsRow_le (BOwn.block (w := w6) H6.out.2 (fun k hk ho => by
        have := (World.ownsRow.lt H6.out.2 k ho).1
        show (((w6.setCell _ _).setCell _ _).setCell _ _).heap[k]? = _
        repeat rw [heap_setCell_other _ _ _ _ (by show k ≠ w.heap.size + 1; omega)])) (by omega)
    · repeat (first | exact H6.out.1.bel | refine Below.setCell ?_ (by simp) _ | refine Below.drew ?_)
end Go.Proofs.YtjmcokcdaddpcaaGreatDoor
set_option linter.unusedVariables false
set_option linter.unusedSimpArgs false
namespace Go.Proofs.YtjmcokcdaddpcaaGreatDoor
open Go.RowKit
/-- What waits, as a value; its block. -/
def wtV (q : Option (Nat × Dsr.Wt)) : Value := match q with
  | some (b, _) => ptr b
  | none => .pointer none
abbrev wtB (q : Dsr.Wt) : Obj := .cells #[strV q.ev, .int .u8 q.verdict, .int .u32 q.num, .int .i64 q.len, .int .u32 q.hash] 126 (0, 0)
abbrev csB (sb : Nat) (c : Dsr.Cs) (wv : Value) : Obj := .cells #[ptr sb, .int .u32 c.num, .int .i64 c.len, .int .u32 c.hash, wv] 119 (0, 0)
/-- The numbers of a case. -/
structure COk (c : Dsr.Cs) : Prop where
  g : GOk c.es c.rs
  num : 16 * c.num ≤ c.len
  len : c.len ≤ 2000
  hash : c.hash < 4294967296
  wait : ∀ q, c.wait = some q → 16 * q.num ≤ q.len ∧ q.len ≤ 2000 ∧ q.hash < 4294967296 ∧ q.verdict ≤ 4 ∧ (q.verdict = 0 → q.ev ∈ nms c.es)
/-- A case in memory: its block, its state, what waits. -/
structure CsAt (N : Nat) (w : World) (cb : Nat) (c : Dsr.Cs) (a : SA) (wb : Option Nat) : Prop where
  st : StAt N w c.es c.rs a
  blk : w.heap[cb]? = some (csB a.sb c (wtV (wb.bind fun b => c.wait.map fun q => (b, q))))
  wsome : wb.isSome = c.wait.isSome
  wt : ∀ b q, wb = some b → c.wait = some q → w.heap[b]? = some (wtB q)
  cbN : N ≤ cb
  far : ¬ Foot c.es c.rs a cb ∧ ∀ b, wb = some b → ¬ Foot c.es c.rs a b ∧ b ≠ cb
  ok : COk c
/-- All blocks of a case. -/
def CFoot (c : Dsr.Cs) (a : SA) (cb : Nat) (wb : Option Nat) (k : Nat) : Prop := k = cb ∨ wb = some k ∨ Foot c.es c.rs a k
def markE (o : Option Dsr.Ev) : Int := match o with
  | some _ => 0
  | none => 4
section
variable {N : Nat} {w w' : World} {cb : Nat} {c : Dsr.Cs} {a : SA} {wb : Option Nat}
theorem CsAt.lt (h : CsAt N w cb c a wb) : cb < w.heap.size := (Array.getElem?_eq_some_iff.1 h.blk).1
theorem CsAt.same (h : CsAt N w cb c a wb) (hs : w.heap.size ≤ w'.heap.size) (hk : ∀ k, k < w.heap.size → CFoot c a cb wb k → w'.heap[k]? = w.heap[k]?) : CsAt N w' cb c a wb := by
  refine ⟨h.st.same hs (fun k h1 h2 => hk k h1 (.inr (.inr h2))), ?_, h.wsome, fun b q h1 h2 => ?_, h.cbN, h.far, h.ok⟩
  · rw [hk cb h.lt (.inl rfl)]; exact h.blk
  · have := h.wt b q h1 h2
    rw [hk b (Array.getElem?_eq_some_iff.1 this).1 (.inr (.inl h1))]; exact this
theorem CsAt.below (h : CsAt N w cb c a wb) (hb : Below w.heap.size w w') : CsAt N w' cb c a wb := h.same hb.size fun k h1 _ => hb.block k h1
theorem CsAt.kp {S : Nat → Prop} (h : CsAt N w cb c a wb) (hk : Kp S w w') (hS : ∀ k, S k → ¬ CFoot c a cb wb k) : CsAt N w' cb c a wb := h.same hk.size fun k h1 h2 => hk.block k h1 (fun hs => hS k hs h2)
theorem CsAt.cells (h : CsAt N w cb c a wb) : ∃ wv, wv = wtV (wb.bind fun b => c.wait.map fun q => (b, q)) ∧ w.cell? ⟨cb, 0, none⟩ = some (ptr a.sb) ∧ w.cell? ⟨cb, 1, none⟩ = some (.int .u32 c.num) ∧ w.cell? ⟨cb, 2, none⟩ = some (.int .i64 c.len) ∧ w.cell? ⟨cb, 3, none⟩ = some (.int .u32 c.hash) ∧ w.cell? ⟨cb, 4, none⟩ = some wv ∧ ∀ o, w.frozen? ⟨cb, o, none⟩ = false := by
  refine ⟨_, rfl, ?_, ?_, ?_, ?_, ?_, fun o => ?_⟩ <;> simp [World.cell?, World.frozen?, h.blk]
theorem wtV_none (h : c.wait = none) : wtV (wb.bind fun b => c.wait.map fun q => (b, q)) = .pointer none := by
  rw [h]; cases wb <;> rfl
theorem wtV_some {q : Dsr.Wt} (hs : wb.isSome = c.wait.isSome) (h : c.wait = some q) : ∃ b, wb = some b ∧ wtV (wb.bind fun b => c.wait.map fun q => (b, q)) = ptr b := by
  rw [h] at hs
  obtain ⟨b, hb⟩ := Option.isSome_iff_exists.1 hs
  exact ⟨b, hb, by rw [hb, h]; rfl⟩
set_option maxRecDepth 100000 in
set_option maxHeartbeats 1600000 in
theorem head_any (h : CsAt N w cb c a wb) : Calls Tryz.prog 34 #[ptr cb] w fun x w' => x = .returned (.int .u32 c.hash) ∧ Below w.heap.size w w' := by
  obtain ⟨wv, -, c0, c1, c2, c3, c4, cf⟩ := h.cells
  have hl := h.lt
  clear h
  go_enter Tryz.func34, Tryz.ntmps34
  go_wp2_with fail
  go_ret
  exact ⟨rfl, Below.refl _ _⟩
set_option maxRecDepth 100000 in
set_option maxHeartbeats 1600000 in
theorem mark_any (h : CsAt N w cb c a wb) (n : List UInt8) : Calls Tryz.prog 23 #[ptr cb, strV n] w fun x w' => x = .returned (.tuple #[markOf (Dsr.findE c.es n), .int .i64 (markE (Dsr.findE c.es n))]) ∧ Below w.heap.size w w' := by
  obtain ⟨wv, -, c0, c1, c2, c3, c4, cf⟩ := h.cells
  have hl := h.lt
  have H : Hid (CsAt N w cb c a wb) := h
  clear h
  go_enter Tryz.func23, Tryz.ntmps23
  go_wp2_with fail
  refine (stMark_any (H.out.st.alloc _) H.out.ok.g n).mono ?_
  rintro x w1 ⟨rfl, b1⟩
  have p1 : w1.heap[w.heap.size]? = some (.cells #[.bool false, .bool false, .bool false] 48 (0, 0)) := (b1.block _ (by simp)).trans (heap_alloc_new _ _)
  have hwl : w.heap.size < w1.heap.size := (Array.getElem?_eq_some_iff.1 p1).1
  obtain ⟨m0, m1, m2, mf⟩ := cells3S p1
  have HB : Hid (Below w.heap.size w w1) := below_alloc b1
  clear b1 p1
  rcases hf : Dsr.findE c.es n with _ | e
  · have HF : Hid (Dsr.findE c.es n = none) := hf
    have e1 : markOf (none : Option Dsr.Ev) = markV false false false := rfl
    have e2 : (none : Option Dsr.Ev).isSome = false := rfl
    rw [e1, e2]
    clear e1 e2 hf
    go_wp2_with fail
    refine bodyPost_ret (v := .tuple #[markV false false false, .int .i64 4]) (by simp [results, Tryz.results23, go_sem, m0, m1, m2, mf, hwl]) rfl ⟨by rw [HF.out]; rfl, ?_⟩
    repeat (first | exact HB.out | refine Below.setCell ?_ (by simp) _ | refine Below.drew ?_ | refine Below.alloc ?_ (by simp; omega) _)
  · have HF : Hid (Dsr.findE c.es n = some e) := hf
    have e1 : markOf (some e) = markV e.done e.inn e.due := rfl
    have e2 : (some e).isSome = true := rfl
    rw [e1, e2]
    clear e1 e2 hf
    go_wp2_with fail
    refine bodyPost_ret (v := .tuple #[markV e.done e.inn e.due, .int .i64 0]) (by simp [results, Tryz.results23, go_sem, m0, m1, m2, mf, hwl]) rfl ⟨by rw [HF.out]; rfl, ?_⟩
    repeat (first | exact HB.out | refine Below.setCell ?_ (by simp) _ | refine Below.drew ?_ | refine Below.alloc ?_ (by simp; omega) _)
end
end Go.Proofs.YtjmcokcdaddpcaaGreatDoor
set_option linter.unusedVariables false
set_option linter.unusedSimpArgs false
namespace Go.Proofs.YtjmcokcdaddpcaaGreatDoor
open Go.RowKit
section
variable {N : Nat} {w : World} {cb : Nat} {c : RC} {a : RA}
abbrev evsQ (c : RC) : List Dsr.Ev := marksQ c.l c.reqs
set_option maxRecDepth 100000 in
set_option maxHeartbeats 1600000 in
theorem rcMark_any (h : RcAt N w cb c a) (n : List UInt8) :
    Calls Tryz.prog 126 #[ptr cb, strV n] w fun x w' => x = .returned (.tuple #[markOf (Dsr.findE (evsQ c) n), .int .i64 (markE (Dsr.findE (evsQ c) n))]) ∧ Below w.heap.size w w' := by
  have H : Hid (RcAt N w cb c a) := h
  obtain ⟨k0, k1, k2, k3, k4, k5, kf⟩ := cells6R h.blk
  have hcl := h.lt
  have kA : ∀ o, (w.alloc o).cell? ⟨cb, 0, none⟩ = some (ptrG a.b) := fun o => ((below_alloc1' o).cell (p := ⟨cb, 0, none⟩) hcl).trans k0
  clear h k1 k2 k3 k4 k5
  go_enter Tryz.func126, Tryz.ntmps126
  go_wp2_with fail
  refine (rFind_any n (H.out.below (below_alloc1' _)).lk (by have := H.out.ok.sm.evs; omega)).mono ?_
  rintro y w1 ⟨rfl, b1⟩
  have p1 : w1.heap[w.heap.size]? = some (.cells #[.bool false, .bool false, .bool false] 48 (0, 0)) := (b1.block _ (by simp)).trans (heap_alloc_new _ _)
  have hb1 : Below w.heap.size w w1 := below_alloc b1
  by_cases hmem : n ∈ c.l.events.map (·.name)
  · obtain ⟨ix, e0, hf, hix, hfe⟩ := findI_mem n c.l.events 0 hmem
    obtain ⟨x, hfx, hxi⟩ := find_idx2 (MkOf.marks c.l c.reqs) hfe 0 (MkOf.marks c.l c.reqs).nm.symm hf
    have hR1 := H.out.below hb1
    obtain ⟨k0', k1', k2', k3', k4', k5', kf'⟩ := cells6R hR1.blk
    have HC : Hid (Calls Tryz.prog 169 #[ptr cb] w1 fun x w' => ∃ v, x = .returned v ∧ w'.ownsRow w1.heap.size 48 3 v (marksQ c.l c.reqs).length ((marksQ c.l c.reqs).flatMap mkC) ∧ Below w1.heap.size w1 w') := rcMarks_any k0' k1' hR1.lt hR1.lk hR1.rq H.out.ok.sm (by have := H.out.ok.rq; omega)
    have hixl : (ix : Int) ≤ 1000 := by have := (List.getElem?_eq_some_iff.1 hix).1; have := H.out.ok.sm.evs; omega
    have H1 : Hid (Dsr.findE (evsQ c) n = some x ∧ (evsQ c)[ix]? = some x ∧ Below w.heap.size w w1 ∧ w1.heap[w.heap.size]? = some (.cells #[.bool false, .bool false, .bool false] 48 (0, 0))) := ⟨hfx, hxi, hb1, p1⟩
    rw [hf, Nat.zero_add]
    clear hmem hf hix hfe hfx hxi hR1 k0' k1' k2' k3' k4' k5' kf' b1 hb1 p1 kA
    go_wp2_with fail
    refine HC.out.mono ?_
    rintro y w2 ⟨v, rfl, o2, b2⟩
    obtain ⟨av, cv, rfl⟩ := owned_shape o2
    have hxl : ix < (marksQ c.l c.reqs).length := (List.getElem?_eq_some_iff.1 H1.out.2.1).1
    obtain ⟨gm, rfl, hc1, hc2⟩ := own_some o2 (by omega)
    obtain ⟨q0, q1, q2, hgm⟩ := mk_at o2 H1.out.2.1
    have p2 := (b2.block _ (Array.getElem?_eq_some_iff.1 H1.out.2.2.2).1).trans H1.out.2.2.2
    obtain ⟨m0, m1, m2, mf⟩ := cells3M p2
    have hwl : w.heap.size < w2.heap.size := (Array.getElem?_eq_some_iff.1 p2).1
    have hgw : ¬ gm = w.heap.size := by
      have := (o2.lt gm rfl).1
      have := (Array.getElem?_eq_some_iff.1 H1.out.2.2.2).1
      omega
    have H2 : Hid (Below w.heap.size w w2) := H1.out.2.2.1.trans (b2.mono H1.out.2.2.1.size)
    clear o2 b2 p2
    go_wp2_with fail
    refine bodyPost_ret (v := .tuple #[markV x.done x.inn x.due, .int .i64 0]) (by simp [results, Tryz.results126, go_sem, m0, m1, m2, mf]) rfl ⟨by rw [H1.out.1]; rfl, ?_⟩
    exact ((H2.out.setCell (p := ⟨w.heap.size, 0, none⟩) (Nat.le_refl _) _).setCell (p := ⟨w.heap.size, 1, none⟩) (Nat.le_refl _) _).setCell (p := ⟨w.heap.size, 2, none⟩) (Nat.le_refl _) _
  · have hnone : Dsr.findE (evsQ c) n = none := find_none (by rw [nms, (MkOf.marks c.l c.reqs).nm]; exact hmem)
    have HC : Hid (Dsr.findE (evsQ c) n = none ∧ Below w.heap.size w w1) := ⟨hnone, hb1⟩
    obtain ⟨m0, m1, m2, mf⟩ := cells3M p1
    have hwl : w.heap.size < w1.heap.size := (Array.getElem?_eq_some_iff.1 p1).1
    rw [findI_out _ _ _ hmem]
    clear hmem hnone b1 hb1 p1 kA
    go_wp2_with fail
    refine bodyPost_ret (v := .tuple #[markV false false false, .int .i64 4]) (by simp [results, Tryz.results126, go_sem, m0, m1, m2, mf]) rfl ⟨by rw [HC.out.1]; rfl, ?_⟩
    exact ((HC.out.2.setCell (p := ⟨w.heap.size, 0, none⟩) (Nat.le_refl _) _).setCell (p := ⟨w.heap.size, 1, none⟩) (Nat.le_refl _) _).setCell (p := ⟨w.heap.size, 2, none⟩) (Nat.le_refl _) _
set_option maxRecDepth 100000 in
set_option maxHeartbeats 1600000 in
theorem rcAccepting_any (h : RcAt N w cb c a) :
    Calls Tryz.prog 129 #[ptr cb] w fun x w' => x = .returned (.bool (Dsr.acceptingP (evsQ c))) ∧ Below w.heap.size w w' := by
  obtain ⟨k0, k1, k2, k3, k4, k5, kf⟩ := cells6R h.blk
  have HC : Hid (Calls Tryz.prog 169 #[ptr cb] w fun x w' => ∃ v, x = .returned v ∧ w'.ownsRow w.heap.size 48 3 v (marksQ c.l c.reqs).length ((marksQ c.l c.reqs).flatMap mkC) ∧ Below w.heap.size w w') := rcMarks_any k0 k1 h.lt h.lk h.rq h.ok.sm (by have := h.ok.rq; omega)
  have hz : ((marksQ c.l c.reqs).length : Int) ≤ 400 := by have := h.ok.sm.evs; rw [(MkOf.marks c.l c.reqs).len]; omega
  clear h k0 k1 k2 k3 k4 k5 kf
  go_enter Tryz.func129, Tryz.ntmps129
  go_wp2_with fail
  refine HC.out.mono ?_
  rintro y w1 ⟨v, rfl, o1, b1⟩
  obtain ⟨evs, hevs⟩ : ∃ evs, evs = marksQ c.l c.reqs := ⟨_, rfl⟩
  have HE : Hid (evs = evsQ c) := hevs
  rw [← hevs] at o1 hz
  obtain ⟨av, cv, rfl⟩ := owned_shape o1
  have H1 : Hid (w1.ownsRow w.heap.size 48 3 (.slice av evs.length cv) evs.length (evs.flatMap mkC) ∧ Below w.heap.size w w1) := ⟨o1, b1⟩
  clear o1 b1 hevs
  go_wp2_with fail
  go_loopg [4] evs.length (fun g i wr => ∃ k : Nat, i = .int .i64 k ∧ k + g = evs.length ∧ (evs.drop k).any (fun e => e.inn && e.due) = evs.any (fun e => e.inn && e.due) ∧ wr = w1)
  case atStart => exact ⟨0, rfl, by omega, rfl, rfl⟩
  case round =>
    obtain ⟨k, rfl, hk, han, rfl⟩ := hrel
    by_cases hi : k < evs.length
    · obtain ⟨x, hx⟩ : ∃ x, evs[k]? = some x := ⟨_, List.getElem?_eq_getElem hi⟩
      have ho := H1.out.1
      obtain ⟨gm, rfl, hc1, hc2⟩ := own_some ho (by omega)
      obtain ⟨q0, q1, q2, hgm⟩ := mk_at ho hx
      obtain ⟨j, rfl⟩ : ∃ j, gk = j + 1 := ⟨gk - 1, by omega⟩
      rw [any_at hx] at han
      have HA : Hid (((x.inn && x.due) || (evs.drop (k + 1)).any (fun e => e.inn && e.due)) = evs.any (fun e => e.inn && e.due)) := han
      obtain ⟨xi, hxi⟩ : ∃ q, q = x.inn := ⟨_, rfl⟩
      obtain ⟨xd, hxd⟩ : ∃ q, q = x.due := ⟨_, rfl⟩
      rw [← hxi] at q1
      rw [← hxd] at q2
      have HX : Hid (xi = x.inn ∧ xd = x.due) := ⟨hxi, hxd⟩
      clear han ho hx hxi hxd
      rcases xi with _ | _
      · go_wp2_with fail
        go_roundg j
        case measure => omega
        case rel => exact ⟨k + 1, by go_num, by omega, by have := HA.out; rw [← HX.out.1, Bool.false_and, Bool.false_or] at this; exact this, rfl⟩
      · rcases xd with _ | _
        · go_wp2_with fail
          go_roundg j
          case measure => omega
          case rel => exact ⟨k + 1, by go_num, by omega, by have := HA.out; rw [← HX.out.1, ← HX.out.2, Bool.and_false, Bool.false_or] at this; exact this, rfl⟩
        · go_wp2_with fail
          go_ret
          refine ⟨?_, H1.out.2⟩
          have := HA.out
          rw [← HX.out.1, ← HX.out.2, Bool.and_true, Bool.true_or] at this
          unfold Dsr.acceptingP
          rw [← HE.out, ← this]
          rfl
    · have hkl : k = evs.length := by omega
      subst hkl
      rw [List.drop_length] at han
      have HA : Hid (evs.any (fun e => e.inn && e.due) = false) := by rw [← han]; rfl
      clear han
      go_wp2_with fail
      go_ret
      refine ⟨?_, H1.out.2⟩
      unfold Dsr.acceptingP
      rw [← HE.out, HA.out]
      rfl
end
end Go.Proofs.YtjmcokcdaddpcaaGreatDoor
