import Derived.Test.YtjmcokcdaddpcaaGreatDoorEaC
set_option linter.unusedVariables false
set_option linter.unusedSimpArgs false
namespace Go.Proofs.YtjmcokcdaddpcaaGreatDoor
open Go.RowKit
set_option maxRecDepth 100000 in
set_option maxHeartbeats 60000000 in
theorem each_4 (w : World) (sg st : Int) (h0 : -9223372036854775808 ≤ sg) (h1 : sg ≤ 9223372036854775807) (h2 : -9223372036854775808 ≤ st) (h3 : st ≤ 9223372036854775807) (hS : SignsIn w) (hpk : pickN sg 5 = 4) :
    Calls Tryz.prog 10 #[.int .i64 sg, .int .i64 st] w fun x w' => x = .returned (.bool true) ∧ Below w.heap.size w w' := by
  have hk : 4 < 5 := by decide
  obtain ⟨n, hn, hpn⟩ : ∃ n : Nat, n < 8 ∧ pickN st 8 = n := by
    have a : 0 ≤ pickN st 8 := Int.emod_nonneg _ (by decide)
    have b : pickN st 8 < 8 := Int.emod_lt_of_pos _ (by decide)
    exact ⟨(pickN st 8).toNat, by omega, by omega⟩
  have HP : Hid (pickN sg 5 = 4 ∧ pickN st 8 = n) := ⟨hpk, hpn⟩
  have HS : Hid (SignsIn w) := hS
  have hnI : (n : Int) < 8 := by omega
  clear hpk hpn hS
  go_enter Tryz.func10, Tryz.ntmps10
  go_wp2_with fail
  refine (kpick_any sg 5 _ h0 h1 (by decide) (by decide)).mono ?_
  rintro x w1 ⟨rfl, rfl⟩
  rw [HP.out.1]
  go_wp2_with fail
  refine (kpick_any st 8 _ h2 h3 (by decide) (by decide)).mono ?_
  rintro x w1 ⟨rfl, rfl⟩
  rw [HP.out.2]
  go_wp2_with fail
  refine (ruled_any hk hn _).mono ?_
  rintro x w1 ⟨rfl, b1⟩
  have H1 : Hid (Below w.heap.size w w1) := below_alloc b1
  clear b1
  go_wp2_with fail
  have L := new_any (w := w1) (t := ⟨(eText 4 n).toArray⟩) (HS.out.below H1.out) (fun he es rs ho => by
    obtain ⟨rfl, rfl⟩ := e_ord hk hn (by simpa using ho)
    exact e_gok hk)
  refine L.mono ?_
  rintro x w2 ⟨pv, sa, sn, sc, fe, rfl, b2, hN⟩
  clear L
  obtain ⟨rfl, cb, M, a, rfl, hC, hFt⟩ := e_new hk hn (by simpa using hN)
  have H2 : Hid (EMid w w2 cb M a (ec0 4 n) none) := ⟨hC, H1.out.trans (b2.mono H1.out.size), fun x hx => Nat.le_trans H1.out.size (hFt x hx)⟩
  have hcb := hC.lt
  clear hFt
  have F := e_facts hk hn
  have HF : Hid (EFacts 4 n) := F
  clear b2 hN hC F
  rcases n with _ | _ | _ | _ | _ | _ | _ | _ | n
  rotate_left 8
  · exfalso; omega
  · have bits4 : (bits BinOp.and IntKind.i64 0 4 == 4) = false := rfl
    have bits1 : (bits BinOp.and IntKind.i64 0 1 == 0) = true := rfl
    have bits2 : (bits BinOp.and IntKind.i64 0 2 == 2) = false := rfl
    have m1 : markOf (Dsr.findE (ec0 4 0).es [98]) = markV false true false := HF.out.m1.1
    have v1 : (Dsr.askP (ec0 4 0) [114] [98]).1 = 0 := HF.out.v1
    have e1 : (Dsr.askP (ec0 4 0) [114] [98]).2.2.1 = 0 := HF.out.e1
    have t1 : (Dsr.settleP (Dsr.askP (ec0 4 0) [114] [98]).2.2.2).1 = 0 := HF.out.s1
    have v2 : (Dsr.askP (ec2 4 0) [114] [97]).1 = 0 := HF.out.v2
    have e2 : (Dsr.askP (ec2 4 0) [114] [97]).2.2.1 = 0 := HF.out.e2
    have t2 : (Dsr.settleP (Dsr.askP (ec2 4 0) [114] [97]).2.2.2).1 = 0 := HF.out.s2
    have m4 : markOf (Dsr.findE (ec4 4 0).es [98]) = markV true false false := HF.out.m4.1
    have a4 : markOf (Dsr.findE (ec4 4 0).es [97]) = markV true true false := HF.out.a4.1
    have ac : Dsr.acceptingP (ec4 4 0).es = true := HF.out.ac
    have v3 : (Dsr.askP (ec4 4 0) [114] [98]).1 = 3 := HF.out.v3
    have e3 : (Dsr.askP (ec4 4 0) [114] [98]).2.2.1 = 0 := HF.out.e3
    go_wp2_with fail
    refine (mark_any (H2.out.aside (below_alloc1S _)).cs [98]).mono ?_
    rintro x w3 ⟨rfl, b3⟩
    rw [m1, HF.out.m1.2]
    obtain ⟨H3, ⟨p0, p1, p2, pf, pl⟩⟩ := after_mark H2.out hcb b3
    have h23 : w2.heap.size < w3.heap.size := pl
    clear b3
    go_wp2_with fail
    refine (ask_any (H3.out.1.aside (below_alloc1S _)).cs [114] [98]).mono ?_
    rintro x w4 ⟨sa1, sn1, sc1, rfl, A4⟩
    rw [v1, e1]
    obtain ⟨wb4, H4, ⟨q0, q1, q2, qf, ql⟩, ⟨r0, r1, r2, rf, rl⟩⟩ := after_ask H3.out.1 H3.out.2 A4
    clear A4 p0 p1 p2 pf pl
    go_wp2_with fail
    refine (settle_any H4.out.1.cs).mono ?_
    rintro x w5 ⟨rfl, C5, K5⟩
    rw [t1]
    obtain ⟨H5, ⟨p0, p1, p2, pf, pl⟩, ⟨s0, s1, s2, sf, sl⟩⟩ := after_settle H4.out C5 K5
    clear C5 K5 q0 q1 q2 qf ql r0 r1 r2 rf rl
    have T5 : Two w w5 cb M a (ec2 4 0) none w2.heap.size w3.heap.size false true false false true false := H5.out
    have hb2 : w.heap.size ≤ w2.heap.size := H2.out.bel.size
    have hne : w3.heap.size ≠ w2.heap.size := by omega
    have hne' : w2.heap.size ≠ w3.heap.size := by omega
    have hb3 : w.heap.size ≤ w3.heap.size := by omega
    have T6 : Hid (Two w ((w5.setCell ⟨w2.heap.size, 0, none⟩ (.bool true)).setCell ⟨w2.heap.size, 2, none⟩ (.bool false)) cb M a (ec2 4 0) none w2.heap.size w3.heap.size true true false false true false) := T5.put02 hb2 hne true false
    clear T5 H5 H4 H3
    go_wp2_with fail
    refine (ask_any T6.out.1.cs [114] [97]).mono ?_
    rintro x w7 ⟨sa2, sn2, sc2, rfl, A7⟩
    rw [v2, e2]
    obtain ⟨wb7, T7⟩ := T6.out.ask A7
    have H7 : Hid (Two w w7 cb M a (Dsr.askP (ec2 4 0) [114] [97]).2.2.2 wb7 w2.heap.size w3.heap.size true true false false true false) := T7
    clear p0 p1 p2 pf pl s0 s1 s2 sf sl
    obtain ⟨⟨p0, p1, p2, pf, pl⟩, ⟨s0, s1, s2, sf, sl⟩⟩ := T7.cells
    clear A7 T7 T6
    go_wp2_with fail
    refine (settle_any H7.out.1.cs).mono ?_
    rintro x w8 ⟨rfl, C8, K8⟩
    rw [t2]
    obtain ⟨H8', -, -⟩ := after_settle H7.out C8 K8
    have H8 : Hid (Two w w8 cb M a (ec4 4 0) none w2.heap.size w3.heap.size true true false false true false) := H8'.out
    clear p0 p1 p2 pf pl s0 s1 s2 sf sl C8 K8 H8' H7
    obtain ⟨⟨p0, p1, p2, pf, pl⟩, ⟨s0, s1, s2, sf, sl⟩⟩ := H8.out.cells
    go_wp2_with fail
    refine (mark_any H8.out.1.cs [98]).mono ?_
    rintro x w9 ⟨rfl, b9⟩
    rw [m4, HF.out.m4.2]
    have H9 : Hid (Two w w9 cb M a (ec4 4 0) none w2.heap.size w3.heap.size true true false false true false) := H8.out.aside b9
    clear p0 p1 p2 pf pl s0 s1 s2 sf sl b9 H8
    obtain ⟨⟨p0, p1, p2, pf, pl⟩, ⟨s0, s1, s2, sf, sl⟩⟩ := H9.out.cells
    have T10 : Hid (Two w (((w9.setCell ⟨w3.heap.size, 0, none⟩ (.bool true)).setCell ⟨w3.heap.size, 1, none⟩ (.bool false)).setCell ⟨w3.heap.size, 2, none⟩ (.bool false)) cb M a (ec4 4 0) none w2.heap.size w3.heap.size true true false true false false) := H9.out.put012 hb3 hne' _ _ _
    go_wp2_with fail
    refine (mark_any T10.out.1.cs [97]).mono ?_
    rintro x w11 ⟨rfl, b11⟩
    rw [a4, HF.out.a4.2]
    have H11 : Hid (Two w w11 cb M a (ec4 4 0) none w2.heap.size w3.heap.size true true false true false false) := T10.out.aside b11
    clear p0 p1 p2 pf pl s0 s1 s2 sf sl b11 T10 H9
    obtain ⟨⟨p0, p1, p2, pf, pl⟩, ⟨s0, s1, s2, sf, sl⟩⟩ := H11.out.cells
    have T12 : Hid (Two w (w11.setCell ⟨w2.heap.size, 1, none⟩ (.bool false)) cb M a (ec4 4 0) none w2.heap.size w3.heap.size true false false true false false) := H11.out.put1 hb2 hne _
    go_wp2_with fail
    refine (accepting_any (T12.out.1.aside (below_alloc1S _)).cs).mono ?_
    rintro x w13 ⟨rfl, b13⟩
    rw [ac]
    have o13 : Own3 w13 w11.heap.size true true false := by
      have e := (b13.block (w11.setCell ⟨w2.heap.size, 1, none⟩ (.bool false)).heap.size (by simp)).trans (heap_alloc_new _ _)
      unfold Own3
      simpa using e
    obtain ⟨x0, x1, x2, xf, xl⟩ := own_cells o13
    have H13 : Hid (Two w w13 cb M a (ec4 4 0) none w2.heap.size w3.heap.size true false false true false false) := T12.out.aside (below_alloc b13)
    clear p0 p1 p2 pf pl s0 s1 s2 sf sl b13 T12 H11 o13
    obtain ⟨⟨p0, p1, p2, pf, pl⟩, ⟨s0, s1, s2, sf, sl⟩⟩ := H13.out.cells
    go_wp2_with fail
    refine (ask_any H13.out.1.cs [114] [98]).mono ?_
    rintro x w14 ⟨sa3, sn3, sc3, rfl, A14⟩
    rw [v3, e3]
    obtain ⟨wb14, T14⟩ := H13.out.ask A14
    have H14 : Hid (Below w.heap.size w w14) := T14.1.bel
    clear p0 p1 p2 pf pl s0 s1 s2 sf sl
    obtain ⟨⟨p0, p1, p2, pf, pl⟩, -⟩ := T14.cells
    clear A14 T14 H13
    go_wp2_with fail
    go_ret
    exact ⟨rfl, H14.out⟩
  · have bits4 : (bits BinOp.and IntKind.i64 1 4 == 4) = false := rfl
    have bits1 : (bits BinOp.and IntKind.i64 1 1 == 0) = false := rfl
    have bits2 : (bits BinOp.and IntKind.i64 1 2 == 2) = false := rfl
    have m1 : markOf (Dsr.findE (ec0 4 1).es [98]) = markV false false false := HF.out.m1.1
    have v1 : (Dsr.askP (ec0 4 1) [114] [98]).1 = 3 := HF.out.v1
    have e1 : (Dsr.askP (ec0 4 1) [114] [98]).2.2.1 = 0 := HF.out.e1
    have t1 : (Dsr.settleP (Dsr.askP (ec0 4 1) [114] [98]).2.2.2).1 = 0 := HF.out.s1
    have v2 : (Dsr.askP (ec2 4 1) [114] [97]).1 = 0 := HF.out.v2
    have e2 : (Dsr.askP (ec2 4 1) [114] [97]).2.2.1 = 0 := HF.out.e2
    have t2 : (Dsr.settleP (Dsr.askP (ec2 4 1) [114] [97]).2.2.2).1 = 0 := HF.out.s2
    have m4 : markOf (Dsr.findE (ec4 4 1).es [98]) = markV false false false := HF.out.m4.1
    have a4 : markOf (Dsr.findE (ec4 4 1).es [97]) = markV true true false := HF.out.a4.1
    have ac : Dsr.acceptingP (ec4 4 1).es = true := HF.out.ac
    have v3 : (Dsr.askP (ec4 4 1) [114] [98]).1 = 3 := HF.out.v3
    have e3 : (Dsr.askP (ec4 4 1) [114] [98]).2.2.1 = 0 := HF.out.e3
    go_wp2_with fail
    refine (mark_any (H2.out.aside (below_alloc1S _)).cs [98]).mono ?_
    rintro x w3 ⟨rfl, b3⟩
    rw [m1, HF.out.m1.2]
    obtain ⟨H3, ⟨p0, p1, p2, pf, pl⟩⟩ := after_mark H2.out hcb b3
    have h23 : w2.heap.size < w3.heap.size := pl
    clear b3
    go_wp2_with fail
    refine (ask_any (H3.out.1.aside (below_alloc1S _)).cs [114] [98]).mono ?_
    rintro x w4 ⟨sa1, sn1, sc1, rfl, A4⟩
    rw [v1, e1]
    obtain ⟨wb4, H4, ⟨q0, q1, q2, qf, ql⟩, ⟨r0, r1, r2, rf, rl⟩⟩ := after_ask H3.out.1 H3.out.2 A4
    clear A4 p0 p1 p2 pf pl
    go_wp2_with fail
    refine (settle_any H4.out.1.cs).mono ?_
    rintro x w5 ⟨rfl, C5, K5⟩
    rw [t1]
    obtain ⟨H5, ⟨p0, p1, p2, pf, pl⟩, ⟨s0, s1, s2, sf, sl⟩⟩ := after_settle H4.out C5 K5
    clear C5 K5 q0 q1 q2 qf ql r0 r1 r2 rf rl
    have T5 : Two w w5 cb M a (ec2 4 1) none w2.heap.size w3.heap.size false false false false false false := H5.out
    have hb2 : w.heap.size ≤ w2.heap.size := H2.out.bel.size
    have hne : w3.heap.size ≠ w2.heap.size := by omega
    have hne' : w2.heap.size ≠ w3.heap.size := by omega
    have hb3 : w.heap.size ≤ w3.heap.size := by omega
    have T6 : Hid (Two w w5 cb M a (ec2 4 1) none w2.heap.size w3.heap.size false false false false false false) := T5
    clear T5 H5 H4 H3
    go_wp2_with fail
    refine (ask_any T6.out.1.cs [114] [97]).mono ?_
    rintro x w7 ⟨sa2, sn2, sc2, rfl, A7⟩
    rw [v2, e2]
    obtain ⟨wb7, T7⟩ := T6.out.ask A7
    have H7 : Hid (Two w w7 cb M a (Dsr.askP (ec2 4 1) [114] [97]).2.2.2 wb7 w2.heap.size w3.heap.size false false false false false false) := T7
    clear p0 p1 p2 pf pl s0 s1 s2 sf sl
    obtain ⟨⟨p0, p1, p2, pf, pl⟩, ⟨s0, s1, s2, sf, sl⟩⟩ := T7.cells
    clear A7 T7 T6
    go_wp2_with fail
    refine (settle_any H7.out.1.cs).mono ?_
    rintro x w8 ⟨rfl, C8, K8⟩
    rw [t2]
    obtain ⟨H8', -, -⟩ := after_settle H7.out C8 K8
    have H8 : Hid (Two w w8 cb M a (ec4 4 1) none w2.heap.size w3.heap.size false false false false false false) := H8'.out
    clear p0 p1 p2 pf pl s0 s1 s2 sf sl C8 K8 H8' H7
    obtain ⟨⟨p0, p1, p2, pf, pl⟩, ⟨s0, s1, s2, sf, sl⟩⟩ := H8.out.cells
    go_wp2_with fail
    refine (mark_any H8.out.1.cs [98]).mono ?_
    rintro x w9 ⟨rfl, b9⟩
    rw [m4, HF.out.m4.2]
    have H9 : Hid (Two w w9 cb M a (ec4 4 1) none w2.heap.size w3.heap.size false false false false false false) := H8.out.aside b9
    clear p0 p1 p2 pf pl s0 s1 s2 sf sl b9 H8
    obtain ⟨⟨p0, p1, p2, pf, pl⟩, ⟨s0, s1, s2, sf, sl⟩⟩ := H9.out.cells
    have T10 : Hid (Two w (((w9.setCell ⟨w3.heap.size, 0, none⟩ (.bool false)).setCell ⟨w3.heap.size, 1, none⟩ (.bool false)).setCell ⟨w3.heap.size, 2, none⟩ (.bool false)) cb M a (ec4 4 1) none w2.heap.size w3.heap.size false false false false false false) := H9.out.put012 hb3 hne' _ _ _
    go_wp2_with fail
    refine (mark_any T10.out.1.cs [97]).mono ?_
    rintro x w11 ⟨rfl, b11⟩
    rw [a4, HF.out.a4.2]
    have H11 : Hid (Two w w11 cb M a (ec4 4 1) none w2.heap.size w3.heap.size false false false false false false) := T10.out.aside b11
    clear p0 p1 p2 pf pl s0 s1 s2 sf sl b11 T10 H9
    obtain ⟨⟨p0, p1, p2, pf, pl⟩, ⟨s0, s1, s2, sf, sl⟩⟩ := H11.out.cells
    have T12 : Hid (Two w (w11.setCell ⟨w2.heap.size, 1, none⟩ (.bool false)) cb M a (ec4 4 1) none w2.heap.size w3.heap.size false false false false false false) := H11.out.put1 hb2 hne _
    go_wp2_with fail
    refine (accepting_any (T12.out.1.aside (below_alloc1S _)).cs).mono ?_
    rintro x w13 ⟨rfl, b13⟩
    rw [ac]
    have o13 : Own3 w13 w11.heap.size true true false := by
      have e := (b13.block (w11.setCell ⟨w2.heap.size, 1, none⟩ (.bool false)).heap.size (by simp)).trans (heap_alloc_new _ _)
      unfold Own3
      simpa using e
    obtain ⟨x0, x1, x2, xf, xl⟩ := own_cells o13
    have H13 : Hid (Two w w13 cb M a (ec4 4 1) none w2.heap.size w3.heap.size false false false false false false) := T12.out.aside (below_alloc b13)
    clear p0 p1 p2 pf pl s0 s1 s2 sf sl b13 T12 H11 o13
    obtain ⟨⟨p0, p1, p2, pf, pl⟩, ⟨s0, s1, s2, sf, sl⟩⟩ := H13.out.cells
    go_wp2_with fail
    refine (ask_any H13.out.1.cs [114] [98]).mono ?_
    rintro x w14 ⟨sa3, sn3, sc3, rfl, A14⟩
    rw [v3, e3]
    obtain ⟨wb14, T14⟩ := H13.out.ask A14
    have H14 : Hid (Below w.heap.size w w14) := T14.1.bel
    clear p0 p1 p2 pf pl s0 s1 s2 sf sl
    obtain ⟨⟨p0, p1, p2, pf, pl⟩, -⟩ := T14.cells
    clear A14 T14 H13
    go_wp2_with fail
    go_ret
    exact ⟨rfl, H14.out⟩
  · have bits4 : (bits BinOp.and IntKind.i64 2 4 == 4) = false := rfl
    have bits1 : (bits BinOp.and IntKind.i64 2 1 == 0) = true := rfl
    have bits2 : (bits BinOp.and IntKind.i64 2 2 == 2) = true := rfl
    have m1 : markOf (Dsr.findE (ec0 4 2).es [98]) = markV false true true := HF.out.m1.1
    have v1 : (Dsr.askP (ec0 4 2) [114] [98]).1 = 0 := HF.out.v1
    have e1 : (Dsr.askP (ec0 4 2) [114] [98]).2.2.1 = 0 := HF.out.e1
    have t1 : (Dsr.settleP (Dsr.askP (ec0 4 2) [114] [98]).2.2.2).1 = 0 := HF.out.s1
    have v2 : (Dsr.askP (ec2 4 2) [114] [97]).1 = 0 := HF.out.v2
    have e2 : (Dsr.askP (ec2 4 2) [114] [97]).2.2.1 = 0 := HF.out.e2
    have t2 : (Dsr.settleP (Dsr.askP (ec2 4 2) [114] [97]).2.2.2).1 = 0 := HF.out.s2
    have m4 : markOf (Dsr.findE (ec4 4 2).es [98]) = markV true false false := HF.out.m4.1
    have a4 : markOf (Dsr.findE (ec4 4 2).es [97]) = markV true true false := HF.out.a4.1
    have ac : Dsr.acceptingP (ec4 4 2).es = true := HF.out.ac
    have v3 : (Dsr.askP (ec4 4 2) [114] [98]).1 = 3 := HF.out.v3
    have e3 : (Dsr.askP (ec4 4 2) [114] [98]).2.2.1 = 0 := HF.out.e3
    go_wp2_with fail
    refine (mark_any (H2.out.aside (below_alloc1S _)).cs [98]).mono ?_
    rintro x w3 ⟨rfl, b3⟩
    rw [m1, HF.out.m1.2]
    obtain ⟨H3, ⟨p0, p1, p2, pf, pl⟩⟩ := after_mark H2.out hcb b3
    have h23 : w2.heap.size < w3.heap.size := pl
    clear b3
    go_wp2_with fail
    refine (ask_any (H3.out.1.aside (below_alloc1S _)).cs [114] [98]).mono ?_
    rintro x w4 ⟨sa1, sn1, sc1, rfl, A4⟩
    rw [v1, e1]
    obtain ⟨wb4, H4, ⟨q0, q1, q2, qf, ql⟩, ⟨r0, r1, r2, rf, rl⟩⟩ := after_ask H3.out.1 H3.out.2 A4
    clear A4 p0 p1 p2 pf pl
    go_wp2_with fail
    refine (settle_any H4.out.1.cs).mono ?_
    rintro x w5 ⟨rfl, C5, K5⟩
    rw [t1]
    obtain ⟨H5, ⟨p0, p1, p2, pf, pl⟩, ⟨s0, s1, s2, sf, sl⟩⟩ := after_settle H4.out C5 K5
    clear C5 K5 q0 q1 q2 qf ql r0 r1 r2 rf rl
    have T5 : Two w w5 cb M a (ec2 4 2) none w2.heap.size w3.heap.size false true true false true true := H5.out
    have hb2 : w.heap.size ≤ w2.heap.size := H2.out.bel.size
    have hne : w3.heap.size ≠ w2.heap.size := by omega
    have hne' : w2.heap.size ≠ w3.heap.size := by omega
    have hb3 : w.heap.size ≤ w3.heap.size := by omega
    have T6 : Hid (Two w ((w5.setCell ⟨w2.heap.size, 0, none⟩ (.bool true)).setCell ⟨w2.heap.size, 2, none⟩ (.bool false)) cb M a (ec2 4 2) none w2.heap.size w3.heap.size true true false false true true) := T5.put02 hb2 hne true false
    clear T5 H5 H4 H3
    go_wp2_with fail
    refine (ask_any T6.out.1.cs [114] [97]).mono ?_
    rintro x w7 ⟨sa2, sn2, sc2, rfl, A7⟩
    rw [v2, e2]
    obtain ⟨wb7, T7⟩ := T6.out.ask A7
    have H7 : Hid (Two w w7 cb M a (Dsr.askP (ec2 4 2) [114] [97]).2.2.2 wb7 w2.heap.size w3.heap.size true true false false true true) := T7
    clear p0 p1 p2 pf pl s0 s1 s2 sf sl
    obtain ⟨⟨p0, p1, p2, pf, pl⟩, ⟨s0, s1, s2, sf, sl⟩⟩ := T7.cells
    clear A7 T7 T6
    go_wp2_with fail
    refine (settle_any H7.out.1.cs).mono ?_
    rintro x w8 ⟨rfl, C8, K8⟩
    rw [t2]
    obtain ⟨H8', -, -⟩ := after_settle H7.out C8 K8
    have H8 : Hid (Two w w8 cb M a (ec4 4 2) none w2.heap.size w3.heap.size true true false false true true) := H8'.out
    clear p0 p1 p2 pf pl s0 s1 s2 sf sl C8 K8 H8' H7
    obtain ⟨⟨p0, p1, p2, pf, pl⟩, ⟨s0, s1, s2, sf, sl⟩⟩ := H8.out.cells
    go_wp2_with fail
    refine (mark_any H8.out.1.cs [98]).mono ?_
    rintro x w9 ⟨rfl, b9⟩
    rw [m4, HF.out.m4.2]
    have H9 : Hid (Two w w9 cb M a (ec4 4 2) none w2.heap.size w3.heap.size true true false false true true) := H8.out.aside b9
    clear p0 p1 p2 pf pl s0 s1 s2 sf sl b9 H8
    obtain ⟨⟨p0, p1, p2, pf, pl⟩, ⟨s0, s1, s2, sf, sl⟩⟩ := H9.out.cells
    have T10 : Hid (Two w (((w9.setCell ⟨w3.heap.size, 0, none⟩ (.bool true)).setCell ⟨w3.heap.size, 1, none⟩ (.bool false)).setCell ⟨w3.heap.size, 2, none⟩ (.bool false)) cb M a (ec4 4 2) none w2.heap.size w3.heap.size true true false true false false) := H9.out.put012 hb3 hne' _ _ _
    go_wp2_with fail
    refine (mark_any T10.out.1.cs [97]).mono ?_
    rintro x w11 ⟨rfl, b11⟩
    rw [a4, HF.out.a4.2]
    have H11 : Hid (Two w w11 cb M a (ec4 4 2) none w2.heap.size w3.heap.size true true false true false false) := T10.out.aside b11
    clear p0 p1 p2 pf pl s0 s1 s2 sf sl b11 T10 H9
    obtain ⟨⟨p0, p1, p2, pf, pl⟩, ⟨s0, s1, s2, sf, sl⟩⟩ := H11.out.cells
    have T12 : Hid (Two w (w11.setCell ⟨w2.heap.size, 1, none⟩ (.bool false)) cb M a (ec4 4 2) none w2.heap.size w3.heap.size true false false true false false) := H11.out.put1 hb2 hne _
    go_wp2_with fail
    refine (accepting_any (T12.out.1.aside (below_alloc1S _)).cs).mono ?_
    rintro x w13 ⟨rfl, b13⟩
    rw [ac]
    have o13 : Own3 w13 w11.heap.size true true false := by
      have e := (b13.block (w11.setCell ⟨w2.heap.size, 1, none⟩ (.bool false)).heap.size (by simp)).trans (heap_alloc_new _ _)
      unfold Own3
      simpa using e
    obtain ⟨x0, x1, x2, xf, xl⟩ := own_cells o13
    have H13 : Hid (Two w w13 cb M a (ec4 4 2) none w2.heap.size w3.heap.size true false false true false false) := T12.out.aside (below_alloc b13)
    clear p0 p1 p2 pf pl s0 s1 s2 sf sl b13 T12 H11 o13
    obtain ⟨⟨p0, p1, p2, pf, pl⟩, ⟨s0, s1, s2, sf, sl⟩⟩ := H13.out.cells
    go_wp2_with fail
    refine (ask_any H13.out.1.cs [114] [98]).mono ?_
    rintro x w14 ⟨sa3, sn3, sc3, rfl, A14⟩
    rw [v3, e3]
    obtain ⟨wb14, T14⟩ := H13.out.ask A14
    have H14 : Hid (Below w.heap.size w w14) := T14.1.bel
    clear p0 p1 p2 pf pl s0 s1 s2 sf sl
    obtain ⟨⟨p0, p1, p2, pf, pl⟩, -⟩ := T14.cells
    clear A14 T14 H13
    go_wp2_with fail
    go_ret
    exact ⟨rfl, H14.out⟩
  · have bits4 : (bits BinOp.and IntKind.i64 3 4 == 4) = false := rfl
    have bits1 : (bits BinOp.and IntKind.i64 3 1 == 0) = false := rfl
    have bits2 : (bits BinOp.and IntKind.i64 3 2 == 2) = true := rfl
    have m1 : markOf (Dsr.findE (ec0 4 3).es [98]) = markV false false true := HF.out.m1.1
    have v1 : (Dsr.askP (ec0 4 3) [114] [98]).1 = 3 := HF.out.v1
    have e1 : (Dsr.askP (ec0 4 3) [114] [98]).2.2.1 = 0 := HF.out.e1
    have t1 : (Dsr.settleP (Dsr.askP (ec0 4 3) [114] [98]).2.2.2).1 = 0 := HF.out.s1
    have v2 : (Dsr.askP (ec2 4 3) [114] [97]).1 = 0 := HF.out.v2
    have e2 : (Dsr.askP (ec2 4 3) [114] [97]).2.2.1 = 0 := HF.out.e2
    have t2 : (Dsr.settleP (Dsr.askP (ec2 4 3) [114] [97]).2.2.2).1 = 0 := HF.out.s2
    have m4 : markOf (Dsr.findE (ec4 4 3).es [98]) = markV false false true := HF.out.m4.1
    have a4 : markOf (Dsr.findE (ec4 4 3).es [97]) = markV true true false := HF.out.a4.1
    have ac : Dsr.acceptingP (ec4 4 3).es = true := HF.out.ac
    have v3 : (Dsr.askP (ec4 4 3) [114] [98]).1 = 3 := HF.out.v3
    have e3 : (Dsr.askP (ec4 4 3) [114] [98]).2.2.1 = 0 := HF.out.e3
    go_wp2_with fail
    refine (mark_any (H2.out.aside (below_alloc1S _)).cs [98]).mono ?_
    rintro x w3 ⟨rfl, b3⟩
    rw [m1, HF.out.m1.2]
    obtain ⟨H3, ⟨p0, p1, p2, pf, pl⟩⟩ := after_mark H2.out hcb b3
    have h23 : w2.heap.size < w3.heap.size := pl
    clear b3
    go_wp2_with fail
    refine (ask_any (H3.out.1.aside (below_alloc1S _)).cs [114] [98]).mono ?_
    rintro x w4 ⟨sa1, sn1, sc1, rfl, A4⟩
    rw [v1, e1]
    obtain ⟨wb4, H4, ⟨q0, q1, q2, qf, ql⟩, ⟨r0, r1, r2, rf, rl⟩⟩ := after_ask H3.out.1 H3.out.2 A4
    clear A4 p0 p1 p2 pf pl
    go_wp2_with fail
    refine (settle_any H4.out.1.cs).mono ?_
    rintro x w5 ⟨rfl, C5, K5⟩
    rw [t1]
    obtain ⟨H5, ⟨p0, p1, p2, pf, pl⟩, ⟨s0, s1, s2, sf, sl⟩⟩ := after_settle H4.out C5 K5
    clear C5 K5 q0 q1 q2 qf ql r0 r1 r2 rf rl
    have T5 : Two w w5 cb M a (ec2 4 3) none w2.heap.size w3.heap.size false false true false false true := H5.out
    have hb2 : w.heap.size ≤ w2.heap.size := H2.out.bel.size
    have hne : w3.heap.size ≠ w2.heap.size := by omega
    have hne' : w2.heap.size ≠ w3.heap.size := by omega
    have hb3 : w.heap.size ≤ w3.heap.size := by omega
    have T6 : Hid (Two w w5 cb M a (ec2 4 3) none w2.heap.size w3.heap.size false false true false false true) := T5
    clear T5 H5 H4 H3
    go_wp2_with fail
    refine (ask_any T6.out.1.cs [114] [97]).mono ?_
    rintro x w7 ⟨sa2, sn2, sc2, rfl, A7⟩
    rw [v2, e2]
    obtain ⟨wb7, T7⟩ := T6.out.ask A7
    have H7 : Hid (Two w w7 cb M a (Dsr.askP (ec2 4 3) [114] [97]).2.2.2 wb7 w2.heap.size w3.heap.size false false true false false true) := T7
    clear p0 p1 p2 pf pl s0 s1 s2 sf sl
    obtain ⟨⟨p0, p1, p2, pf, pl⟩, ⟨s0, s1, s2, sf, sl⟩⟩ := T7.cells
    clear A7 T7 T6
    go_wp2_with fail
    refine (settle_any H7.out.1.cs).mono ?_
    rintro x w8 ⟨rfl, C8, K8⟩
    rw [t2]
    obtain ⟨H8', -, -⟩ := after_settle H7.out C8 K8
    have H8 : Hid (Two w w8 cb M a (ec4 4 3) none w2.heap.size w3.heap.size false false true false false true) := H8'.out
    clear p0 p1 p2 pf pl s0 s1 s2 sf sl C8 K8 H8' H7
    obtain ⟨⟨p0, p1, p2, pf, pl⟩, ⟨s0, s1, s2, sf, sl⟩⟩ := H8.out.cells
    go_wp2_with fail
    refine (mark_any H8.out.1.cs [98]).mono ?_
    rintro x w9 ⟨rfl, b9⟩
    rw [m4, HF.out.m4.2]
    have H9 : Hid (Two w w9 cb M a (ec4 4 3) none w2.heap.size w3.heap.size false false true false false true) := H8.out.aside b9
    clear p0 p1 p2 pf pl s0 s1 s2 sf sl b9 H8
    obtain ⟨⟨p0, p1, p2, pf, pl⟩, ⟨s0, s1, s2, sf, sl⟩⟩ := H9.out.cells
    have T10 : Hid (Two w (((w9.setCell ⟨w3.heap.size, 0, none⟩ (.bool false)).setCell ⟨w3.heap.size, 1, none⟩ (.bool false)).setCell ⟨w3.heap.size, 2, none⟩ (.bool true)) cb M a (ec4 4 3) none w2.heap.size w3.heap.size false false true false false true) := H9.out.put012 hb3 hne' _ _ _
    go_wp2_with fail
    refine (mark_any T10.out.1.cs [97]).mono ?_
    rintro x w11 ⟨rfl, b11⟩
    rw [a4, HF.out.a4.2]
    have H11 : Hid (Two w w11 cb M a (ec4 4 3) none w2.heap.size w3.heap.size false false true false false true) := T10.out.aside b11
    clear p0 p1 p2 pf pl s0 s1 s2 sf sl b11 T10 H9
    obtain ⟨⟨p0, p1, p2, pf, pl⟩, ⟨s0, s1, s2, sf, sl⟩⟩ := H11.out.cells
    have T12 : Hid (Two w (w11.setCell ⟨w2.heap.size, 1, none⟩ (.bool false)) cb M a (ec4 4 3) none w2.heap.size w3.heap.size false false true false false true) := H11.out.put1 hb2 hne _
    go_wp2_with fail
    refine (accepting_any (T12.out.1.aside (below_alloc1S _)).cs).mono ?_
    rintro x w13 ⟨rfl, b13⟩
    rw [ac]
    have o13 : Own3 w13 w11.heap.size true true false := by
      have e := (b13.block (w11.setCell ⟨w2.heap.size, 1, none⟩ (.bool false)).heap.size (by simp)).trans (heap_alloc_new _ _)
      unfold Own3
      simpa using e
    obtain ⟨x0, x1, x2, xf, xl⟩ := own_cells o13
    have H13 : Hid (Two w w13 cb M a (ec4 4 3) none w2.heap.size w3.heap.size false false true false false true) := T12.out.aside (below_alloc b13)
    clear p0 p1 p2 pf pl s0 s1 s2 sf sl b13 T12 H11 o13
    obtain ⟨⟨p0, p1, p2, pf, pl⟩, ⟨s0, s1, s2, sf, sl⟩⟩ := H13.out.cells
    go_wp2_with fail
    refine (ask_any H13.out.1.cs [114] [98]).mono ?_
    rintro x w14 ⟨sa3, sn3, sc3, rfl, A14⟩
    rw [v3, e3]
    obtain ⟨wb14, T14⟩ := H13.out.ask A14
    have H14 : Hid (Below w.heap.size w w14) := T14.1.bel
    clear p0 p1 p2 pf pl s0 s1 s2 sf sl
    obtain ⟨⟨p0, p1, p2, pf, pl⟩, -⟩ := T14.cells
    clear A14 T14 H13
    go_wp2_with fail
    go_ret
    exact ⟨rfl, H14.out⟩
  · have bits4 : (bits BinOp.and IntKind.i64 4 4 == 4) = true := rfl
    have bits1 : (bits BinOp.and IntKind.i64 4 1 == 0) = true := rfl
    have bits2 : (bits BinOp.and IntKind.i64 4 2 == 2) = false := rfl
    have m1 : markOf (Dsr.findE (ec0 4 4).es [98]) = markV true true false := HF.out.m1.1
    have v1 : (Dsr.askP (ec0 4 4) [114] [98]).1 = 0 := HF.out.v1
    have e1 : (Dsr.askP (ec0 4 4) [114] [98]).2.2.1 = 0 := HF.out.e1
    have t1 : (Dsr.settleP (Dsr.askP (ec0 4 4) [114] [98]).2.2.2).1 = 0 := HF.out.s1
    have v2 : (Dsr.askP (ec2 4 4) [114] [97]).1 = 0 := HF.out.v2
    have e2 : (Dsr.askP (ec2 4 4) [114] [97]).2.2.1 = 0 := HF.out.e2
    have t2 : (Dsr.settleP (Dsr.askP (ec2 4 4) [114] [97]).2.2.2).1 = 0 := HF.out.s2
    have m4 : markOf (Dsr.findE (ec4 4 4).es [98]) = markV true false false := HF.out.m4.1
    have a4 : markOf (Dsr.findE (ec4 4 4).es [97]) = markV true true false := HF.out.a4.1
    have ac : Dsr.acceptingP (ec4 4 4).es = true := HF.out.ac
    have v3 : (Dsr.askP (ec4 4 4) [114] [98]).1 = 3 := HF.out.v3
    have e3 : (Dsr.askP (ec4 4 4) [114] [98]).2.2.1 = 0 := HF.out.e3
    go_wp2_with fail
    refine (mark_any (H2.out.aside (below_alloc1S _)).cs [98]).mono ?_
    rintro x w3 ⟨rfl, b3⟩
    rw [m1, HF.out.m1.2]
    obtain ⟨H3, ⟨p0, p1, p2, pf, pl⟩⟩ := after_mark H2.out hcb b3
    have h23 : w2.heap.size < w3.heap.size := pl
    clear b3
    go_wp2_with fail
    refine (ask_any (H3.out.1.aside (below_alloc1S _)).cs [114] [98]).mono ?_
    rintro x w4 ⟨sa1, sn1, sc1, rfl, A4⟩
    rw [v1, e1]
    obtain ⟨wb4, H4, ⟨q0, q1, q2, qf, ql⟩, ⟨r0, r1, r2, rf, rl⟩⟩ := after_ask H3.out.1 H3.out.2 A4
    clear A4 p0 p1 p2 pf pl
    go_wp2_with fail
    refine (settle_any H4.out.1.cs).mono ?_
    rintro x w5 ⟨rfl, C5, K5⟩
    rw [t1]
    obtain ⟨H5, ⟨p0, p1, p2, pf, pl⟩, ⟨s0, s1, s2, sf, sl⟩⟩ := after_settle H4.out C5 K5
    clear C5 K5 q0 q1 q2 qf ql r0 r1 r2 rf rl
    have T5 : Two w w5 cb M a (ec2 4 4) none w2.heap.size w3.heap.size true true false true true false := H5.out
    have hb2 : w.heap.size ≤ w2.heap.size := H2.out.bel.size
    have hne : w3.heap.size ≠ w2.heap.size := by omega
    have hne' : w2.heap.size ≠ w3.heap.size := by omega
    have hb3 : w.heap.size ≤ w3.heap.size := by omega
    have T6 : Hid (Two w ((w5.setCell ⟨w2.heap.size, 0, none⟩ (.bool true)).setCell ⟨w2.heap.size, 2, none⟩ (.bool false)) cb M a (ec2 4 4) none w2.heap.size w3.heap.size true true false true true false) := T5.put02 hb2 hne true false
    clear T5 H5 H4 H3
    go_wp2_with fail
    refine (ask_any T6.out.1.cs [114] [97]).mono ?_
    rintro x w7 ⟨sa2, sn2, sc2, rfl, A7⟩
    rw [v2, e2]
    obtain ⟨wb7, T7⟩ := T6.out.ask A7
    have H7 : Hid (Two w w7 cb M a (Dsr.askP (ec2 4 4) [114] [97]).2.2.2 wb7 w2.heap.size w3.heap.size true true false true true false) := T7
    clear p0 p1 p2 pf pl s0 s1 s2 sf sl
    obtain ⟨⟨p0, p1, p2, pf, pl⟩, ⟨s0, s1, s2, sf, sl⟩⟩ := T7.cells
    clear A7 T7 T6
    go_wp2_with fail
    refine (settle_any H7.out.1.cs).mono ?_
    rintro x w8 ⟨rfl, C8, K8⟩
    rw [t2]
    obtain ⟨H8', -, -⟩ := after_settle H7.out C8 K8
    have H8 : Hid (Two w w8 cb M a (ec4 4 4) none w2.heap.size w3.heap.size true true false true true false) := H8'.out
    clear p0 p1 p2 pf pl s0 s1 s2 sf sl C8 K8 H8' H7
    obtain ⟨⟨p0, p1, p2, pf, pl⟩, ⟨s0, s1, s2, sf, sl⟩⟩ := H8.out.cells
    go_wp2_with fail
    refine (mark_any H8.out.1.cs [98]).mono ?_
    rintro x w9 ⟨rfl, b9⟩
    rw [m4, HF.out.m4.2]
    have H9 : Hid (Two w w9 cb M a (ec4 4 4) none w2.heap.size w3.heap.size true true false true true false) := H8.out.aside b9
    clear p0 p1 p2 pf pl s0 s1 s2 sf sl b9 H8
    obtain ⟨⟨p0, p1, p2, pf, pl⟩, ⟨s0, s1, s2, sf, sl⟩⟩ := H9.out.cells
    have T10 : Hid (Two w (((w9.setCell ⟨w3.heap.size, 0, none⟩ (.bool true)).setCell ⟨w3.heap.size, 1, none⟩ (.bool false)).setCell ⟨w3.heap.size, 2, none⟩ (.bool false)) cb M a (ec4 4 4) none w2.heap.size w3.heap.size true true false true false false) := H9.out.put012 hb3 hne' _ _ _
    go_wp2_with fail
    refine (mark_any T10.out.1.cs [97]).mono ?_
    rintro x w11 ⟨rfl, b11⟩
    rw [a4, HF.out.a4.2]
    have H11 : Hid (Two w w11 cb M a (ec4 4 4) none w2.heap.size w3.heap.size true true false true false false) := T10.out.aside b11
    clear p0 p1 p2 pf pl s0 s1 s2 sf sl b11 T10 H9
    obtain ⟨⟨p0, p1, p2, pf, pl⟩, ⟨s0, s1, s2, sf, sl⟩⟩ := H11.out.cells
    have T12 : Hid (Two w (w11.setCell ⟨w2.heap.size, 1, none⟩ (.bool false)) cb M a (ec4 4 4) none w2.heap.size w3.heap.size true false false true false false) := H11.out.put1 hb2 hne _
    go_wp2_with fail
    refine (accepting_any (T12.out.1.aside (below_alloc1S _)).cs).mono ?_
    rintro x w13 ⟨rfl, b13⟩
    rw [ac]
    have o13 : Own3 w13 w11.heap.size true true false := by
      have e := (b13.block (w11.setCell ⟨w2.heap.size, 1, none⟩ (.bool false)).heap.size (by simp)).trans (heap_alloc_new _ _)
      unfold Own3
      simpa using e
    obtain ⟨x0, x1, x2, xf, xl⟩ := own_cells o13
    have H13 : Hid (Two w w13 cb M a (ec4 4 4) none w2.heap.size w3.heap.size true false false true false false) := T12.out.aside (below_alloc b13)
    clear p0 p1 p2 pf pl s0 s1 s2 sf sl b13 T12 H11 o13
    obtain ⟨⟨p0, p1, p2, pf, pl⟩, ⟨s0, s1, s2, sf, sl⟩⟩ := H13.out.cells
    go_wp2_with fail
    refine (ask_any H13.out.1.cs [114] [98]).mono ?_
    rintro x w14 ⟨sa3, sn3, sc3, rfl, A14⟩
    rw [v3, e3]
    obtain ⟨wb14, T14⟩ := H13.out.ask A14
    have H14 : Hid (Below w.heap.size w w14) := T14.1.bel
    clear p0 p1 p2 pf pl s0 s1 s2 sf sl
    obtain ⟨⟨p0, p1, p2, pf, pl⟩, -⟩ := T14.cells
    clear A14 T14 H13
    go_wp2_with fail
    go_ret
    exact ⟨rfl, H14.out⟩
  · have bits4 : (bits BinOp.and IntKind.i64 5 4 == 4) = true := rfl
    have bits1 : (bits BinOp.and IntKind.i64 5 1 == 0) = false := rfl
    have bits2 : (bits BinOp.and IntKind.i64 5 2 == 2) = false := rfl
    have m1 : markOf (Dsr.findE (ec0 4 5).es [98]) = markV true false false := HF.out.m1.1
    have v1 : (Dsr.askP (ec0 4 5) [114] [98]).1 = 3 := HF.out.v1
    have e1 : (Dsr.askP (ec0 4 5) [114] [98]).2.2.1 = 0 := HF.out.e1
    have t1 : (Dsr.settleP (Dsr.askP (ec0 4 5) [114] [98]).2.2.2).1 = 0 := HF.out.s1
    have v2 : (Dsr.askP (ec2 4 5) [114] [97]).1 = 0 := HF.out.v2
    have e2 : (Dsr.askP (ec2 4 5) [114] [97]).2.2.1 = 0 := HF.out.e2
    have t2 : (Dsr.settleP (Dsr.askP (ec2 4 5) [114] [97]).2.2.2).1 = 0 := HF.out.s2
    have m4 : markOf (Dsr.findE (ec4 4 5).es [98]) = markV true false false := HF.out.m4.1
    have a4 : markOf (Dsr.findE (ec4 4 5).es [97]) = markV true true false := HF.out.a4.1
    have ac : Dsr.acceptingP (ec4 4 5).es = true := HF.out.ac
    have v3 : (Dsr.askP (ec4 4 5) [114] [98]).1 = 3 := HF.out.v3
    have e3 : (Dsr.askP (ec4 4 5) [114] [98]).2.2.1 = 0 := HF.out.e3
    go_wp2_with fail
    refine (mark_any (H2.out.aside (below_alloc1S _)).cs [98]).mono ?_
    rintro x w3 ⟨rfl, b3⟩
    rw [m1, HF.out.m1.2]
    obtain ⟨H3, ⟨p0, p1, p2, pf, pl⟩⟩ := after_mark H2.out hcb b3
    have h23 : w2.heap.size < w3.heap.size := pl
    clear b3
    go_wp2_with fail
    refine (ask_any (H3.out.1.aside (below_alloc1S _)).cs [114] [98]).mono ?_
    rintro x w4 ⟨sa1, sn1, sc1, rfl, A4⟩
    rw [v1, e1]
    obtain ⟨wb4, H4, ⟨q0, q1, q2, qf, ql⟩, ⟨r0, r1, r2, rf, rl⟩⟩ := after_ask H3.out.1 H3.out.2 A4
    clear A4 p0 p1 p2 pf pl
    go_wp2_with fail
    refine (settle_any H4.out.1.cs).mono ?_
    rintro x w5 ⟨rfl, C5, K5⟩
    rw [t1]
    obtain ⟨H5, ⟨p0, p1, p2, pf, pl⟩, ⟨s0, s1, s2, sf, sl⟩⟩ := after_settle H4.out C5 K5
    clear C5 K5 q0 q1 q2 qf ql r0 r1 r2 rf rl
    have T5 : Two w w5 cb M a (ec2 4 5) none w2.heap.size w3.heap.size true false false true false false := H5.out
    have hb2 : w.heap.size ≤ w2.heap.size := H2.out.bel.size
    have hne : w3.heap.size ≠ w2.heap.size := by omega
    have hne' : w2.heap.size ≠ w3.heap.size := by omega
    have hb3 : w.heap.size ≤ w3.heap.size := by omega
    have T6 : Hid (Two w w5 cb M a (ec2 4 5) none w2.heap.size w3.heap.size true false false true false false) := T5
    clear T5 H5 H4 H3
    go_wp2_with fail
    refine (ask_any T6.out.1.cs [114] [97]).mono ?_
    rintro x w7 ⟨sa2, sn2, sc2, rfl, A7⟩
    rw [v2, e2]
    obtain ⟨wb7, T7⟩ := T6.out.ask A7
    have H7 : Hid (Two w w7 cb M a (Dsr.askP (ec2 4 5) [114] [97]).2.2.2 wb7 w2.heap.size w3.heap.size true false false true false false) := T7
    clear p0 p1 p2 pf pl s0 s1 s2 sf sl
    obtain ⟨⟨p0, p1, p2, pf, pl⟩, ⟨s0, s1, s2, sf, sl⟩⟩ := T7.cells
    clear A7 T7 T6
    go_wp2_with fail
    refine (settle_any H7.out.1.cs).mono ?_
    rintro x w8 ⟨rfl, C8, K8⟩
    rw [t2]
    obtain ⟨H8', -, -⟩ := after_settle H7.out C8 K8
    have H8 : Hid (Two w w8 cb M a (ec4 4 5) none w2.heap.size w3.heap.size true false false true false false) := H8'.out
    clear p0 p1 p2 pf pl s0 s1 s2 sf sl C8 K8 H8' H7
    obtain ⟨⟨p0, p1, p2, pf, pl⟩, ⟨s0, s1, s2, sf, sl⟩⟩ := H8.out.cells
    go_wp2_with fail
    refine (mark_any H8.out.1.cs [98]).mono ?_
    rintro x w9 ⟨rfl, b9⟩
    rw [m4, HF.out.m4.2]
    have H9 : Hid (Two w w9 cb M a (ec4 4 5) none w2.heap.size w3.heap.size true false false true false false) := H8.out.aside b9
    clear p0 p1 p2 pf pl s0 s1 s2 sf sl b9 H8
    obtain ⟨⟨p0, p1, p2, pf, pl⟩, ⟨s0, s1, s2, sf, sl⟩⟩ := H9.out.cells
    have T10 : Hid (Two w (((w9.setCell ⟨w3.heap.size, 0, none⟩ (.bool true)).setCell ⟨w3.heap.size, 1, none⟩ (.bool false)).setCell ⟨w3.heap.size, 2, none⟩ (.bool false)) cb M a (ec4 4 5) none w2.heap.size w3.heap.size true false false true false false) := H9.out.put012 hb3 hne' _ _ _
    go_wp2_with fail
    refine (mark_any T10.out.1.cs [97]).mono ?_
    rintro x w11 ⟨rfl, b11⟩
    rw [a4, HF.out.a4.2]
    have H11 : Hid (Two w w11 cb M a (ec4 4 5) none w2.heap.size w3.heap.size true false false true false false) := T10.out.aside b11
    clear p0 p1 p2 pf pl s0 s1 s2 sf sl b11 T10 H9
    obtain ⟨⟨p0, p1, p2, pf, pl⟩, ⟨s0, s1, s2, sf, sl⟩⟩ := H11.out.cells
    have T12 : Hid (Two w (w11.setCell ⟨w2.heap.size, 1, none⟩ (.bool false)) cb M a (ec4 4 5) none w2.heap.size w3.heap.size true false false true false false) := H11.out.put1 hb2 hne _
    go_wp2_with fail
    refine (accepting_any (T12.out.1.aside (below_alloc1S _)).cs).mono ?_
    rintro x w13 ⟨rfl, b13⟩
    rw [ac]
    have o13 : Own3 w13 w11.heap.size true true false := by
      have e := (b13.block (w11.setCell ⟨w2.heap.size, 1, none⟩ (.bool false)).heap.size (by simp)).trans (heap_alloc_new _ _)
      unfold Own3
      simpa using e
    obtain ⟨x0, x1, x2, xf, xl⟩ := own_cells o13
    have H13 : Hid (Two w w13 cb M a (ec4 4 5) none w2.heap.size w3.heap.size true false false true false false) := T12.out.aside (below_alloc b13)
    clear p0 p1 p2 pf pl s0 s1 s2 sf sl b13 T12 H11 o13
    obtain ⟨⟨p0, p1, p2, pf, pl⟩, ⟨s0, s1, s2, sf, sl⟩⟩ := H13.out.cells
    go_wp2_with fail
    refine (ask_any H13.out.1.cs [114] [98]).mono ?_
    rintro x w14 ⟨sa3, sn3, sc3, rfl, A14⟩
    rw [v3, e3]
    obtain ⟨wb14, T14⟩ := H13.out.ask A14
    have H14 : Hid (Below w.heap.size w w14) := T14.1.bel
    clear p0 p1 p2 pf pl s0 s1 s2 sf sl
    obtain ⟨⟨p0, p1, p2, pf, pl⟩, -⟩ := T14.cells
    clear A14 T14 H13
    go_wp2_with fail
    go_ret
    exact ⟨rfl, H14.out⟩
  · have bits4 : (bits BinOp.and IntKind.i64 6 4 == 4) = true := rfl
    have bits1 : (bits BinOp.and IntKind.i64 6 1 == 0) = true := rfl
    have bits2 : (bits BinOp.and IntKind.i64 6 2 == 2) = true := rfl
    have m1 : markOf (Dsr.findE (ec0 4 6).es [98]) = markV true true true := HF.out.m1.1
    have v1 : (Dsr.askP (ec0 4 6) [114] [98]).1 = 0 := HF.out.v1
    have e1 : (Dsr.askP (ec0 4 6) [114] [98]).2.2.1 = 0 := HF.out.e1
    have t1 : (Dsr.settleP (Dsr.askP (ec0 4 6) [114] [98]).2.2.2).1 = 0 := HF.out.s1
    have v2 : (Dsr.askP (ec2 4 6) [114] [97]).1 = 0 := HF.out.v2
    have e2 : (Dsr.askP (ec2 4 6) [114] [97]).2.2.1 = 0 := HF.out.e2
    have t2 : (Dsr.settleP (Dsr.askP (ec2 4 6) [114] [97]).2.2.2).1 = 0 := HF.out.s2
    have m4 : markOf (Dsr.findE (ec4 4 6).es [98]) = markV true false false := HF.out.m4.1
    have a4 : markOf (Dsr.findE (ec4 4 6).es [97]) = markV true true false := HF.out.a4.1
    have ac : Dsr.acceptingP (ec4 4 6).es = true := HF.out.ac
    have v3 : (Dsr.askP (ec4 4 6) [114] [98]).1 = 3 := HF.out.v3
    have e3 : (Dsr.askP (ec4 4 6) [114] [98]).2.2.1 = 0 := HF.out.e3
    go_wp2_with fail
    refine (mark_any (H2.out.aside (below_alloc1S _)).cs [98]).mono ?_
    rintro x w3 ⟨rfl, b3⟩
    rw [m1, HF.out.m1.2]
    obtain ⟨H3, ⟨p0, p1, p2, pf, pl⟩⟩ := after_mark H2.out hcb b3
    have h23 : w2.heap.size < w3.heap.size := pl
    clear b3
    go_wp2_with fail
    refine (ask_any (H3.out.1.aside (below_alloc1S _)).cs [114] [98]).mono ?_
    rintro x w4 ⟨sa1, sn1, sc1, rfl, A4⟩
    rw [v1, e1]
    obtain ⟨wb4, H4, ⟨q0, q1, q2, qf, ql⟩, ⟨r0, r1, r2, rf, rl⟩⟩ := after_ask H3.out.1 H3.out.2 A4
    clear A4 p0 p1 p2 pf pl
    go_wp2_with fail
    refine (settle_any H4.out.1.cs).mono ?_
    rintro x w5 ⟨rfl, C5, K5⟩
    rw [t1]
    obtain ⟨H5, ⟨p0, p1, p2, pf, pl⟩, ⟨s0, s1, s2, sf, sl⟩⟩ := after_settle H4.out C5 K5
    clear C5 K5 q0 q1 q2 qf ql r0 r1 r2 rf rl
    have T5 : Two w w5 cb M a (ec2 4 6) none w2.heap.size w3.heap.size true true true true true true := H5.out
    have hb2 : w.heap.size ≤ w2.heap.size := H2.out.bel.size
    have hne : w3.heap.size ≠ w2.heap.size := by omega
    have hne' : w2.heap.size ≠ w3.heap.size := by omega
    have hb3 : w.heap.size ≤ w3.heap.size := by omega
    have T6 : Hid (Two w ((w5.setCell ⟨w2.heap.size, 0, none⟩ (.bool true)).setCell ⟨w2.heap.size, 2, none⟩ (.bool false)) cb M a (ec2 4 6) none w2.heap.size w3.heap.size true true false true true true) := T5.put02 hb2 hne true false
    clear T5 H5 H4 H3
    go_wp2_with fail
    refine (ask_any T6.out.1.cs [114] [97]).mono ?_
    rintro x w7 ⟨sa2, sn2, sc2, rfl, A7⟩
    rw [v2, e2]
    obtain ⟨wb7, T7⟩ := T6.out.ask A7
    have H7 : Hid (Two w w7 cb M a (Dsr.askP (ec2 4 6) [114] [97]).2.2.2 wb7 w2.heap.size w3.heap.size true true false true true true) := T7
    clear p0 p1 p2 pf pl s0 s1 s2 sf sl
    obtain ⟨⟨p0, p1, p2, pf, pl⟩, ⟨s0, s1, s2, sf, sl⟩⟩ := T7.cells
    clear A7 T7 T6
    go_wp2_with fail
    refine (settle_any H7.out.1.cs).mono ?_
    rintro x w8 ⟨rfl, C8, K8⟩
    rw [t2]
    obtain ⟨H8', -, -⟩ := after_settle H7.out C8 K8
    have H8 : Hid (Two w w8 cb M a (ec4 4 6) none w2.heap.size w3.heap.size true true false true true true) := H8'.out
    clear p0 p1 p2 pf pl s0 s1 s2 sf sl C8 K8 H8' H7
    obtain ⟨⟨p0, p1, p2, pf, pl⟩, ⟨s0, s1, s2, sf, sl⟩⟩ := H8.out.cells
    go_wp2_with fail
    refine (mark_any H8.out.1.cs [98]).mono ?_
    rintro x w9 ⟨rfl, b9⟩
    rw [m4, HF.out.m4.2]
    have H9 : Hid (Two w w9 cb M a (ec4 4 6) none w2.heap.size w3.heap.size true true false true true true) := H8.out.aside b9
    clear p0 p1 p2 pf pl s0 s1 s2 sf sl b9 H8
    obtain ⟨⟨p0, p1, p2, pf, pl⟩, ⟨s0, s1, s2, sf, sl⟩⟩ := H9.out.cells
    have T10 : Hid (Two w (((w9.setCell ⟨w3.heap.size, 0, none⟩ (.bool true)).setCell ⟨w3.heap.size, 1, none⟩ (.bool false)).setCell ⟨w3.heap.size, 2, none⟩ (.bool false)) cb M a (ec4 4 6) none w2.heap.size w3.heap.size true true false true false false) := H9.out.put012 hb3 hne' _ _ _
    go_wp2_with fail
    refine (mark_any T10.out.1.cs [97]).mono ?_
    rintro x w11 ⟨rfl, b11⟩
    rw [a4, HF.out.a4.2]
    have H11 : Hid (Two w w11 cb M a (ec4 4 6) none w2.heap.size w3.heap.size true true false true false false) := T10.out.aside b11
    clear p0 p1 p2 pf pl s0 s1 s2 sf sl b11 T10 H9
    obtain ⟨⟨p0, p1, p2, pf, pl⟩, ⟨s0, s1, s2, sf, sl⟩⟩ := H11.out.cells
    have T12 : Hid (Two w (w11.setCell ⟨w2.heap.size, 1, none⟩ (.bool false)) cb M a (ec4 4 6) none w2.heap.size w3.heap.size true false false true false false) := H11.out.put1 hb2 hne _
    go_wp2_with fail
    refine (accepting_any (T12.out.1.aside (below_alloc1S _)).cs).mono ?_
    rintro x w13 ⟨rfl, b13⟩
    rw [ac]
    have o13 : Own3 w13 w11.heap.size true true false := by
      have e := (b13.block (w11.setCell ⟨w2.heap.size, 1, none⟩ (.bool false)).heap.size (by simp)).trans (heap_alloc_new _ _)
      unfold Own3
      simpa using e
    obtain ⟨x0, x1, x2, xf, xl⟩ := own_cells o13
    have H13 : Hid (Two w w13 cb M a (ec4 4 6) none w2.heap.size w3.heap.size true false false true false false) := T12.out.aside (below_alloc b13)
    clear p0 p1 p2 pf pl s0 s1 s2 sf sl b13 T12 H11 o13
    obtain ⟨⟨p0, p1, p2, pf, pl⟩, ⟨s0, s1, s2, sf, sl⟩⟩ := H13.out.cells
    go_wp2_with fail
    refine (ask_any H13.out.1.cs [114] [98]).mono ?_
    rintro x w14 ⟨sa3, sn3, sc3, rfl, A14⟩
    rw [v3, e3]
    obtain ⟨wb14, T14⟩ := H13.out.ask A14
    have H14 : Hid (Below w.heap.size w w14) := T14.1.bel
    clear p0 p1 p2 pf pl s0 s1 s2 sf sl
    obtain ⟨⟨p0, p1, p2, pf, pl⟩, -⟩ := T14.cells
    clear A14 T14 H13
    go_wp2_with fail
    go_ret
    exact ⟨rfl, H14.out⟩
  · have bits4 : (bits BinOp.and IntKind.i64 7 4 == 4) = true := rfl
    have bits1 : (bits BinOp.and IntKind.i64 7 1 == 0) = false := rfl
    have bits2 : (bits BinOp.and IntKind.i64 7 2 == 2) = true := rfl
    have m1 : markOf (Dsr.findE (ec0 4 7).es [98]) = markV true false true := HF.out.m1.1
    have v1 : (Dsr.askP (ec0 4 7) [114] [98]).1 = 3 := HF.out.v1
    have e1 : (Dsr.askP (ec0 4 7) [114] [98]).2.2.1 = 0 := HF.out.e1
    have t1 : (Dsr.settleP (Dsr.askP (ec0 4 7) [114] [98]).2.2.2).1 = 0 := HF.out.s1
    have v2 : (Dsr.askP (ec2 4 7) [114] [97]).1 = 0 := HF.out.v2
    have e2 : (Dsr.askP (ec2 4 7) [114] [97]).2.2.1 = 0 := HF.out.e2
    have t2 : (Dsr.settleP (Dsr.askP (ec2 4 7) [114] [97]).2.2.2).1 = 0 := HF.out.s2
    have m4 : markOf (Dsr.findE (ec4 4 7).es [98]) = markV true false true := HF.out.m4.1
    have a4 : markOf (Dsr.findE (ec4 4 7).es [97]) = markV true true false := HF.out.a4.1
    have ac : Dsr.acceptingP (ec4 4 7).es = true := HF.out.ac
    have v3 : (Dsr.askP (ec4 4 7) [114] [98]).1 = 3 := HF.out.v3
    have e3 : (Dsr.askP (ec4 4 7) [114] [98]).2.2.1 = 0 := HF.out.e3
    go_wp2_with fail
    refine (mark_any (H2.out.aside (below_alloc1S _)).cs [98]).mono ?_
    rintro x w3 ⟨rfl, b3⟩
    rw [m1, HF.out.m1.2]
    obtain ⟨H3, ⟨p0, p1, p2, pf, pl⟩⟩ := after_mark H2.out hcb b3
    have h23 : w2.heap.size < w3.heap.size := pl
    clear b3
    go_wp2_with fail
    refine (ask_any (H3.out.1.aside (below_alloc1S _)).cs [114] [98]).mono ?_
    rintro x w4 ⟨sa1, sn1, sc1, rfl, A4⟩
    rw [v1, e1]
    obtain ⟨wb4, H4, ⟨q0, q1, q2, qf, ql⟩, ⟨r0, r1, r2, rf, rl⟩⟩ := after_ask H3.out.1 H3.out.2 A4
    clear A4 p0 p1 p2 pf pl
    go_wp2_with fail
    refine (settle_any H4.out.1.cs).mono ?_
    rintro x w5 ⟨rfl, C5, K5⟩
    rw [t1]
    obtain ⟨H5, ⟨p0, p1, p2, pf, pl⟩, ⟨s0, s1, s2, sf, sl⟩⟩ := after_settle H4.out C5 K5
    clear C5 K5 q0 q1 q2 qf ql r0 r1 r2 rf rl
    have T5 : Two w w5 cb M a (ec2 4 7) none w2.heap.size w3.heap.size true false true true false true := H5.out
    have hb2 : w.heap.size ≤ w2.heap.size := H2.out.bel.size
    have hne : w3.heap.size ≠ w2.heap.size := by omega
    have hne' : w2.heap.size ≠ w3.heap.size := by omega
    have hb3 : w.heap.size ≤ w3.heap.size := by omega
    have T6 : Hid (Two w w5 cb M a (ec2 4 7) none w2.heap.size w3.heap.size true false true true false true) := T5
    clear T5 H5 H4 H3
    go_wp2_with fail
    refine (ask_any T6.out.1.cs [114] [97]).mono ?_
    rintro x w7 ⟨sa2, sn2, sc2, rfl, A7⟩
    rw [v2, e2]
    obtain ⟨wb7, T7⟩ := T6.out.ask A7
    have H7 : Hid (Two w w7 cb M a (Dsr.askP (ec2 4 7) [114] [97]).2.2.2 wb7 w2.heap.size w3.heap.size true false true true false true) := T7
    clear p0 p1 p2 pf pl s0 s1 s2 sf sl
    obtain ⟨⟨p0, p1, p2, pf, pl⟩, ⟨s0, s1, s2, sf, sl⟩⟩ := T7.cells
    clear A7 T7 T6
    go_wp2_with fail
    refine (settle_any H7.out.1.cs).mono ?_
    rintro x w8 ⟨rfl, C8, K8⟩
    rw [t2]
    obtain ⟨H8', -, -⟩ := after_settle H7.out C8 K8
    have H8 : Hid (Two w w8 cb M a (ec4 4 7) none w2.heap.size w3.heap.size true false true true false true) := H8'.out
    clear p0 p1 p2 pf pl s0 s1 s2 sf sl C8 K8 H8' H7
    obtain ⟨⟨p0, p1, p2, pf, pl⟩, ⟨s0, s1, s2, sf, sl⟩⟩ := H8.out.cells
    go_wp2_with fail
    refine (mark_any H8.out.1.cs [98]).mono ?_
    rintro x w9 ⟨rfl, b9⟩
    rw [m4, HF.out.m4.2]
    have H9 : Hid (Two w w9 cb M a (ec4 4 7) none w2.heap.size w3.heap.size true false true true false true) := H8.out.aside b9
    clear p0 p1 p2 pf pl s0 s1 s2 sf sl b9 H8
    obtain ⟨⟨p0, p1, p2, pf, pl⟩, ⟨s0, s1, s2, sf, sl⟩⟩ := H9.out.cells
    have T10 : Hid (Two w (((w9.setCell ⟨w3.heap.size, 0, none⟩ (.bool true)).setCell ⟨w3.heap.size, 1, none⟩ (.bool false)).setCell ⟨w3.heap.size, 2, none⟩ (.bool true)) cb M a (ec4 4 7) none w2.heap.size w3.heap.size true false true true false true) := H9.out.put012 hb3 hne' _ _ _
    go_wp2_with fail
    refine (mark_any T10.out.1.cs [97]).mono ?_
    rintro x w11 ⟨rfl, b11⟩
    rw [a4, HF.out.a4.2]
    have H11 : Hid (Two w w11 cb M a (ec4 4 7) none w2.heap.size w3.heap.size true false true true false true) := T10.out.aside b11
    clear p0 p1 p2 pf pl s0 s1 s2 sf sl b11 T10 H9
    obtain ⟨⟨p0, p1, p2, pf, pl⟩, ⟨s0, s1, s2, sf, sl⟩⟩ := H11.out.cells
    have T12 : Hid (Two w (w11.setCell ⟨w2.heap.size, 1, none⟩ (.bool false)) cb M a (ec4 4 7) none w2.heap.size w3.heap.size true false true true false true) := H11.out.put1 hb2 hne _
    go_wp2_with fail
    refine (accepting_any (T12.out.1.aside (below_alloc1S _)).cs).mono ?_
    rintro x w13 ⟨rfl, b13⟩
    rw [ac]
    have o13 : Own3 w13 w11.heap.size true true false := by
      have e := (b13.block (w11.setCell ⟨w2.heap.size, 1, none⟩ (.bool false)).heap.size (by simp)).trans (heap_alloc_new _ _)
      unfold Own3
      simpa using e
    obtain ⟨x0, x1, x2, xf, xl⟩ := own_cells o13
    have H13 : Hid (Two w w13 cb M a (ec4 4 7) none w2.heap.size w3.heap.size true false true true false true) := T12.out.aside (below_alloc b13)
    clear p0 p1 p2 pf pl s0 s1 s2 sf sl b13 T12 H11 o13
    obtain ⟨⟨p0, p1, p2, pf, pl⟩, ⟨s0, s1, s2, sf, sl⟩⟩ := H13.out.cells
    go_wp2_with fail
    refine (ask_any H13.out.1.cs [114] [98]).mono ?_
    rintro x w14 ⟨sa3, sn3, sc3, rfl, A14⟩
    rw [v3, e3]
    obtain ⟨wb14, T14⟩ := H13.out.ask A14
    have H14 : Hid (Below w.heap.size w w14) := T14.1.bel
    clear p0 p1 p2 pf pl s0 s1 s2 sf sl
    obtain ⟨⟨p0, p1, p2, pf, pl⟩, -⟩ := T14.cells
    clear A14 T14 H13
    go_wp2_with fail
    go_ret
    exact ⟨rfl, H14.out⟩
end Go.Proofs.YtjmcokcdaddpcaaGreatDoor
