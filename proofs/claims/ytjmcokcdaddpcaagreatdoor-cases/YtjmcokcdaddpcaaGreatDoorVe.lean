import Derived.Test.YtjmcokcdaddpcaaGreatDoorVd
import Derived.Test.YtjmcokcdaddpcaaGreatDoorRows
import Derived.Deep.Slices
import Derived.Lib.LaidTab
import Derived.ChangeArms
import Derived.SevenTiedAt
set_option linter.unusedVariables false
set_option linter.unusedSimpArgs false
namespace Go.Proofs.YtjmcokcdaddpcaaGreatDoor
open Go.RowKit
set_option maxRecDepth 100000 in
set_option maxHeartbeats 6400000 in
theorem plays_any (w : World) (v : Value) (zs : List StD) (g : Nat) (hv : StepsIs w v zs) (hs : SignsIn w) (ht : TabP w) (h5 : 5 ≤ w.heap.size) (hg : ∀ k : Nat, k < 7 → w.cell? ⟨g, k, none⟩ = some (.int .i64 (3 + k))) :
    Calls Tryz.prog 18 #[v, .slice (some ⟨g, 0, none⟩) 7 7] w fun x w' => x = .returned (.bool true) ∧ Below w.heap.size w w' := by
  have hform : ∃ a c, v = .slice a zs.length c := by
    rcases hv with ⟨rfl, rfl⟩ | ⟨a, cap, h1, _⟩
    · exact ⟨_, _, rfl⟩
    · exact ⟨_, _, h1⟩
  obtain ⟨va, vc, rfl⟩ := hform
  have hzl : (zs.length : Int) ≤ 1599999999999 := by
    rcases hv with ⟨_, rfl⟩ | ⟨a, cap, _, h2, _⟩
    · simp
    · omega
  have hgl : g < w.heap.size := World.block_lt_of_cell? _ _ (hg 0 (by omega))
  have H : Hid (StepsIs w (.slice va zs.length vc) zs ∧ SignsIn w ∧ TabP w ∧ 5 ≤ w.heap.size ∧ ∀ k : Nat, k < 7 → w.cell? ⟨g, k, none⟩ = some (.int .i64 (3 + k))) := ⟨hv, hs, ht, h5, hg⟩
  clear hv hs ht h5 hg
  go_enter Tryz.func18, Tryz.ntmps18
  go_wp2_with fail
  refine (wBegins_any (inv_first H.out.2.1 H.out.2.2.1 H.out.2.2.2.1 rfl) ⟨loanT.toArray⟩ (by show 0 < 1600000000000; decide)).mono ?_
  rintro y w1 ⟨rfl, ω1, s1, h1, h2, h3, _, h4, h6⟩
  have hps1 : s1.ps.length = 1 := by have := h4 loan_in; simpa using this
  have h2 : s1.wb = w.heap.size := h2
  obtain ⟨gl, cl, hvl, _, _⟩ := h1.lr.form (by omega)
  have hblk := h1.bk.blk
  obtain ⟨s0, _, _, _, _, _, _⟩ := cells6R hblk
  rw [hvl, hps1, h2] at s0
  have hwl : w.heap.size < w1.heap.size := h2 ▸ (Array.getElem?_eq_some_iff.1 hblk).1
  have H1 : Hid (∃ ω s, WInv w w.heap.size w1 ω s ∧ s.wb = w.heap.size ∧ s.bn ≤ 1 ∧ 0 < s.ps.length ∧ ∀ p ∈ s.ps, p.st = false) := ⟨ω1, s1, h1, h2, by rw [h3]; exact Nat.le_refl _, by omega, h6 (fun p hp => by cases hp)⟩
  clear h1 h2 h3 h4 h6 hvl hblk hps1
  go_wp2_with fail
  go_loopg [7] zs.length (fun g iv wr => ∃ m : Nat, iv = .int .i64 m ∧ m + g = zs.length ∧ ∃ ω s, WInv w w.heap.size wr ω s ∧ s.wb = w.heap.size ∧ s.bn ≤ m + 1 ∧ 0 < s.ps.length ∧ ∀ p ∈ s.ps, p.st = false)
  case atStart => exact ⟨0, rfl, by omega, H1.out⟩
  case round =>
    obtain ⟨m, rfl, hm, ω, s, hI, hwb, hbn, hps, hst⟩ := hrel
    by_cases hlt : m < zs.length
    · obtain ⟨z, hz⟩ : ∃ z, zs[m]? = some z := ⟨_, List.getElem?_eq_getElem hlt⟩
      obtain ⟨b, o, rfl, hbl, hst0, he1, he2⟩ := step_at H.out.1 hI.fr hz
      have hgl2 : g < wr.heap.size := Nat.lt_of_lt_of_le hgl hI.fr.size
      obtain ⟨wo, hwo⟩ : ∃ wo, wo = wr := ⟨_, rfl⟩
      subst hwo
      obtain ⟨go, hgo⟩ : ∃ go, go = gk := ⟨_, rfl⟩
      subst hgo
      have HR : Hid (WInv w w.heap.size wo ω s ∧ s.wb = w.heap.size ∧ s.bn ≤ m + 1 ∧ 0 < s.ps.length ∧ (∀ p ∈ s.ps, p.st = false) ∧ zs[m]? = some z) := ⟨hI, hwb, hbn, hps, hst, hz⟩
      have HC : Hid (StPl wo b o m z) := hst0
      clear hI hwb hbn hps hst hz hst0
      have hltI : (m : Int) < zs.length := by omega
      go_wp2_with fail
      go_loopg [8, 9] 7 (fun g bv kv wr => ∃ q : Nat, bv = .bool (decide (3 ≤ z.kd ∧ z.kd < 3 + q)) ∧ kv = .int .i64 q ∧ q + g = 7 ∧ Below wo.heap.size wo wr)
      case atStart => exact ⟨0, by simp, rfl, by omega, Below.refl _ _⟩
      case round =>
        obtain ⟨q, rfl, rfl, hq, hbw⟩ := hrel
        obtain ⟨c0, c1, c2, c3, c4, c5, c6⟩ := HC.out.below hbl hbw
        have hbl2 : b < wr.heap.size := Nat.lt_of_lt_of_le hbl hbw.size
        have hgl3 : g < wr.heap.size := Nat.lt_of_lt_of_le hgl2 hbw.size
        by_cases hq7 : q < 7
        · obtain ⟨j, rfl⟩ : ∃ j, gk = j + 1 := ⟨gk - 1, by omega⟩
          have ck := (hbw.cell (p := ⟨g, q, none⟩) hgl2).trans ((HR.out.1.fr.cell (p := ⟨g, q, none⟩) hgl).trans (H.out.2.2.2.2 q hq7))
          have HB : Hid (Below wo.heap.size wo wr) := hbw
          clear hbw
          have hqI : (q : Int) < 7 := by omega
          by_cases hin : 3 ≤ z.kd ∧ z.kd < 3 + (q : Int)
          · rw [decide_eq_true hin]
            go_wp2_with fail
            go_quiet (fail)
            go_wp2_with fail
            go_roundg j
            case measure => omega
            case rel => exact ⟨q + 1, by rw [decide_eq_true (by omega : 3 ≤ z.kd ∧ z.kd < 3 + ((q + 1 : Nat) : Int))], by go_num, by omega, HB.out.trans ⟨rfl, rfl, rfl, Nat.le_refl _, fun _ _ => rfl⟩⟩
          · rw [decide_eq_false hin]
            by_cases hkq : z.kd = 3 + (q : Int)
            · have hkb : (z.kd == 3 + (q : Int)) = true := by simp [hkq]
              go_wp2_with fail
              go_quiet (fail)
              go_wp2_with fail
              go_roundg j
              case measure => omega
              case rel => exact ⟨q + 1, by rw [decide_eq_true (by omega : 3 ≤ z.kd ∧ z.kd < 3 + ((q + 1 : Nat) : Int))], by go_num, by omega, HB.out.trans ⟨rfl, rfl, rfl, Nat.le_refl _, fun _ _ => rfl⟩⟩
            · have hkb : (z.kd == 3 + (q : Int)) = false := by simp [hkq]
              go_wp2_with fail
              go_quiet (fail)
              go_wp2_with fail
              go_roundg j
              case measure => omega
              case rel => exact ⟨q + 1, by rw [decide_eq_false (by omega : ¬ (3 ≤ z.kd ∧ z.kd < 3 + ((q + 1 : Nat) : Int)))], by go_num, by omega, HB.out.trans ⟨rfl, rfl, rfl, Nat.le_refl _, fun _ _ => rfl⟩⟩
        · have hqe : q = 7 := by omega
          subst hqe
          by_cases hin : 3 ≤ z.kd ∧ z.kd < 3 + ((7 : Nat) : Int)
          · rw [decide_eq_true hin]
            have hk3 : 3 ≤ z.kd ∧ z.kd < 10 := by omega
            have HS : Hid (∀ wx, Below wr.heap.size wr wx → Calls Tryz.prog 48 #[ptr w.heap.size, .agg #[.int .i64 z.kd, .int .i64 z.e, strV z.S, strV z.R, .slice z.ba z.bn z.bc, .int .i64 z.A, .int .i64 z.C]] wx fun x w' => StepQ w w.heap.size s x w') := by
              intro wx hx
              have h0 := wStep_any (inv_below HR.out.1 (hbw.trans (hx.mono hbw.size)) (fun _ => 0)) z.kd z.e z.A z.C z.S z.R z.ba z.bn z.bc hk3 (by have := HR.out.2.2.1; omega) HR.out.2.2.2.2.1 HR.out.2.2.2.1 he1 he2
              rw [HR.out.2.1] at h0
              exact h0
            clear hbw
            go_wp2_with fail
            refine (HS.out wr (Below.refl _ _)).mono ?_
            rintro x w2 ⟨rfl, ω2, s2, i2, e2, b2, p2, t2⟩
            have HI : Hid (WInv w w.heap.size w2 ω2 s2 ∧ s2.wb = w.heap.size ∧ s2.bn ≤ m + 1 + 1 ∧ 0 < s2.ps.length ∧ ∀ p ∈ s2.ps, p.st = false) := ⟨i2, e2.trans HR.out.2.1, by have := HR.out.2.2.1; omega, by have := HR.out.2.2.2.1; omega, t2⟩
            have HK : Hid (Calls Tryz.prog 49 #[.pointer (some ⟨w.heap.size, 1, none⟩)] w2 fun x w' => x = .returned (.bool true) ∧ Below w2.heap.size w2 w') := by
              have h0 := bKept_any HI.out.1.bk
              rw [HI.out.2.1] at h0
              exact h0
            clear i2 e2 b2 p2 t2
            go_wp2_with fail
            refine HK.out.mono ?_
            rintro x w3 ⟨rfl, b3⟩
            have H3 : Hid (Below w2.heap.size w2 w3) := b3
            clear b3
            go_wp2_with fail
            go_roundg (go - 1)
            case measure => omega
            case rel => exact ⟨m + 1, by go_num, by omega, _, s2, inv_below HI.out.1 H3.out (fun _ => 0), HI.out.2.1, HI.out.2.2.1, HI.out.2.2.2.1, HI.out.2.2.2.2⟩
          · rw [decide_eq_false hin]
            have HB : Hid (Below wo.heap.size wo wr) := hbw
            clear hbw
            go_wp2_with fail
            go_roundg (go - 1)
            case measure => omega
            case rel => exact ⟨m + 1, by go_num, by omega, _, s, inv_below HR.out.1 HB.out (fun _ => 0), HR.out.2.1, by have := HR.out.2.2.1; omega, HR.out.2.2.2.1, HR.out.2.2.2.2.1⟩
    · have hml : m = zs.length := by omega
      subst hml
      have HF : Hid (Below w.heap.size w wr) := hI.fr
      clear hI hwb hbn hps hst
      go_wp2_with fail
      go_ret
      exact ⟨rfl, HF.out⟩
end Go.Proofs.YtjmcokcdaddpcaaGreatDoor
set_option linter.unusedVariables false
set_option linter.unusedSimpArgs false
namespace Go.Proofs.YtjmcokcdaddpcaaGreatDoor
open Go.ChangeShapes Go.WideShapes Go.RowKit
theorem ca_cellsStep : Tryz.prog.cellsOf 29 = 7 := by kernel_rfl
theorem ca_cellsInt : Tryz.prog.cellsOf 3 = 1 := by kernel_rfl
theorem ca_cellsStr : Tryz.prog.cellsOf 9 = 1 := by kernel_rfl
theorem ca_cellsBy : Tryz.prog.cellsOf 27 = 1 := by kernel_rfl
theorem ca_bytesStep : Tryz.prog.bytesOf 29 = 88 := by kernel_rfl
theorem int_in {z : Int} (h : (Lit.int .i64 z).wf = true) : -9223372036854775808 ≤ z ∧ z < 9223372036854775808 := by
  have h1 : (decide (IntKind.i64.min ≤ z) && decide (z ≤ IntKind.i64.max)) = true := h
  have e3 : IntKind.i64.min = -9223372036854775808 := rfl
  have e4 : IntKind.i64.max = 9223372036854775807 := rfl
  rw [e3, e4, Bool.and_eq_true, decide_eq_true_eq, decide_eq_true_eq] at h1
  omega
theorem seven {α : Type} {l : List α} (h : l.length = 7) : ∃ a b c d e f g, l = [a, b, c, d, e, f, g] := by
  match l, h with
  | [a, b, c, d, e, f, g], _ => exact ⟨a, b, c, d, e, f, g, rfl⟩
theorem strV_of (s : ByteArray) : Value.string s = strV s.data.toList := by
  unfold strV
  cases s
  simp
theorem steps_of {H : Type} {enc : TypeId × Value → H} {w : World} {base : Nat} {sp : Nat → Bool} {held : Bool} {fuel : Nat} {v : Value} {x : DataW H × List MemPlace} (h : DataW.trod enc Tryz.prog w base sp held fuel 35 [v] = some x) (hz : ∀ y ∈ x.1.weights Tryz.prog 35, y ≤ reachBytes) : ∃ zs, StepsIs w v zs := by
  rcases Go.Deep.open_slice Tryz.underlying35 h with ⟨hcs, _⟩ | ⟨a, len, cap, m, n, D, Pl, hcs, _, hl, hm, hmm, hx0, hx⟩
  · simp at hcs
    exact ⟨[], .inl ⟨hcs, rfl⟩⟩
  · simp at hcs
    subst hcs
    have hlm : len ≤ m := by rw [hmm]; split <;> omega
    have hlen : len ≤ 1599999999999 := by
      have h1 := hz ((((List.range len).map D).length + ((List.range (m - len)).map fun j => D (len + j)).length) * Tryz.prog.bytesOf 29) (by
        rw [hx0, DataW.weights, Tryz.underlying35]
        exact List.mem_cons_self)
      rw [ca_bytesStep] at h1
      unfold reachBytes at h1
      simp at h1
      omega
    have each : ∀ i, i < len → ∃ z : StD, StAtP w a i z := by
      intro i hi
      obtain ⟨cs', h1, h2⟩ := hx i (by omega)
      rw [ca_cellsStep] at h1
      obtain ⟨_, hlen', hcell⟩ := World.cells?_some h1
      obtain ⟨xs, k, hk, hxy, _, hxl, hf⟩ := DataW.trod_struct Tryz.underlying29 h2
      obtain ⟨y0, y1, y2, y3, y4, y5, y6, rfl⟩ := seven (show xs.length = 7 from hxl)
      obtain ⟨v0, v1, v2, v3, v4, v5, v6, rfl⟩ := seven hlen'
      have g0 := hf 0 _ rfl
      have g1 := hf 1 _ rfl
      have g2 := hf 2 _ rfl
      have g3 := hf 3 _ rfl
      have g4 := hf 4 _ rfl
      simp [ca_cellsInt, ca_cellsStr, ca_cellsBy] at g0 g1 g2 g3 g4
      have g5 := hf 5 _ rfl
      have g6 := hf 6 _ rfl
      simp [ca_cellsInt, ca_cellsStr, ca_cellsBy] at g5 g6
      obtain ⟨z0, e0, _, _⟩ := DataW.trod_int Tryz.underlying3 g0
      obtain ⟨z1, e1, _, w1⟩ := DataW.trod_int Tryz.underlying3 g1
      obtain ⟨z2, e2, _, _⟩ := DataW.trod_string Tryz.underlying9 g2
      obtain ⟨z3, e3, _, _⟩ := DataW.trod_string Tryz.underlying9 g3
      obtain ⟨z5, e5, _, _⟩ := DataW.trod_int Tryz.underlying3 g5
      obtain ⟨z6, e6, _, _⟩ := DataW.trod_int Tryz.underlying3 g6
      obtain ⟨ba, bn, bc, e4⟩ : ∃ ba bn bc, v4 = .slice ba bn bc := by
        rcases DataW.trod_slice Tryz.underlying27 g4 with ⟨e, _⟩ | ⟨b4, n4, c4, _, _, _, _, e, _⟩
        · simp at e; exact ⟨_, _, _, e⟩
        · simp at e; exact ⟨_, _, _, e⟩
      simp at e0 e1 e2 e3 e5 e6
      subst e0 e1 e2 e3 e4 e5 e6
      have c0 := hcell 0 (by omega)
      have c1 := hcell 1 (by omega)
      have c2 := hcell 2 (by omega)
      have c3 := hcell 3 (by omega)
      have c4 := hcell 4 (by omega)
      have c5 := hcell 5 (by omega)
      have c6 := hcell 6 (by omega)
      rw [Go.Deep.add_add] at c0 c1 c2 c3 c4 c5 c6
      have hw := int_in w1
      refine ⟨⟨z0, z1, z2.data.toList, z3.data.toList, ba, bn, bc, z5, z6⟩, ⟨by simpa using c0, by simpa using c1, ?_, ?_, by simpa using c4, by simpa using c5, by simpa using c6⟩, hw.1, hw.2⟩
      · rw [← strV_of]; simpa using c2
      · rw [← strV_of]; simpa using c3
    have : Inhabited StD := ⟨⟨0, 0, [], [], none, 0, 0, 0, 0⟩⟩
    obtain ⟨q, hq⟩ := Go.Deep.choose_lt each
    refine ⟨(List.range len).map q, .inr ⟨a, cap, by simp, by simp; exact hlen, fun i z hi => ?_⟩⟩
    rw [List.getElem?_map, Option.map_eq_some_iff] at hi
    obtain ⟨i', hi', rfl⟩ := hi
    obtain ⟨hil, rfl⟩ : i < len ∧ i = i' := by
      rw [List.getElem?_eq_some_iff] at hi'
      obtain ⟨h1, h2⟩ := hi'
      simp at h1 h2
      exact ⟨h1, h2⟩
    exact hq i hil
end Go.Proofs.YtjmcokcdaddpcaaGreatDoor
namespace Go.Proofs.YtjmcokcdaddpcaaGreatDoor
/-- A tied card of a plain row whose call can start goroutines. -/
theorem tied_goes (Lk : Looks) {p : Pinned} {s : OpenSpec} {c : OpenClaim} (kinds : List LaidKind) (tests : Bool) (har : Bool × String) (lk : Bool)
    (hc : c.holds p s) (hw : c.wfByText s = true) (htie : c.laidByTextAt Lk p kinds tests)
    (hst : c.start = .entering) (hnb : c.noBlocks = false ∧ c.again = false) (hm : p.checked.prog.mainIs = some (har.1, har.2.toList)) (hn : (!har.1 && har.2.isEmpty && !lk) = false)
    (hl : ∀ f fn, p.checked.prog.funcNamed c.func = some f → p.checked.prog.funcs[f]? = some fn → lk = p.checked.prog.looks [] ∧ ∀ (j : Nat) t, fn.params[j]? = some t → p.checked.prog.wantsStandIn t = false)
    (hg : true = c.goesBy p.checked.prog) :
    Claim7.holds p (.plain s) { stood := { row := c, standIns := [], harness := har, looks := lk }, kinds := [], alts := [], goes := true, laidByText := true, laidKinds := kinds, laidTests := tests, laidLooks := Lk } := by
  have h6 : ∀ r : OpenClaim, Claim7.isSixth { stood := { row := r, standIns := [], harness := har, looks := lk }, kinds := [] } = false := fun r => by simpa [Claim7.isSixth] using hn
  refine ⟨Claim7.tied_new_at Lk kinds tests (Claim7.new_of_sixth hc har lk hst hnb hm (h6 c) hl) hw, fun D hD => (by cases hD), htie, (fun h => by cases h), hg⟩
end Go.Proofs.YtjmcokcdaddpcaaGreatDoor
