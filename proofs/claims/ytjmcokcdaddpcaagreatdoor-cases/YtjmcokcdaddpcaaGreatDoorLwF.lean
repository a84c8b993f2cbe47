import Derived.Test.YtjmcokcdaddpcaaGreatDoorUk
import Derived.Deep.CutRange
set_option linter.unusedVariables false
set_option linter.unusedSimpArgs false
namespace Go.Proofs.YtjmcokcdaddpcaaGreatDoor
open Go.RowKit
/-- The shape of a list that came out. -/
theorem Rd.shape {w : World} {e : BE} (h : Rd w e) : ∃ a c, e.v = .slice a e.n c ∧ (0 < e.n → ∃ g, a = some ⟨g, 0, none⟩ ∧ e.n ≤ c ∧ c ≤ maxLen ∧ g < w.heap.size ∧ ∀ i, i < e.n → w.cell? ⟨g, i, none⟩ = some (sgV e.k i)) := by
  rcases h with ⟨h1, h2⟩ | ⟨g, c, h1, h2, h3, ⟨cur, h4⟩, h5⟩
  · exact ⟨none, 0, by rw [h1, h2], fun h => by omega⟩
  · exact ⟨_, c, h1, fun _ => ⟨g, rfl, h2, h3, (Array.getElem?_eq_some_iff.1 h4).1, h5⟩⟩
theorem RdS.shape {w : World} {e : BE} (h : RdS w e) : ∃ a c, e.v = .slice a e.n c ∧ (0 < e.n → ∃ g, a = some ⟨g, 0, none⟩ ∧ e.n ≤ c ∧ c ≤ maxLen ∧ g < w.heap.size ∧ ∀ i, i < e.n → w.cell? ⟨g, i, none⟩ = some (stV e.k i)) := by
  rcases h with ⟨h1, h2⟩ | ⟨g, c, h1, h2, h3, ⟨cur, h4⟩, h5⟩
  · exact ⟨none, 0, by rw [h1, h2], fun h => by omega⟩
  · exact ⟨_, c, h1, fun _ => ⟨g, rfl, h2, h3, (Array.getElem?_eq_some_iff.1 h4).1, h5⟩⟩
structure BkAt (N : Nat) (w : World) (wb : Nat) (vl vbs vkb vss vks : Value) (bn : Nat) (bl sl : List BE) : Prop where
  blk : w.heap[wb]? = some (.cells #[vl, vbs, vkb, vss, vks, .int .i64 bn] 107 (0, 0))
  bs : w.ownsRow N 27 1 vbs bl.length (bl.map (·.v))
  kb : w.ownsRow N 3 1 vkb bl.length (bl.map fun e => .int .i64 (e.k : Nat))
  ss : w.ownsRow N 22 1 vss sl.length (sl.map (·.v))
  ks : w.ownsRow N 3 1 vks sl.length (sl.map fun e => .int .i64 (e.k : Nat))
  rd : ∀ e ∈ bl, Rd w e
  rs : ∀ e ∈ sl, RdS w e
  tab : TabP w
  wb10 : 5 ≤ wb
  bn2 : bn ≤ 1600000000000
  bl4 : bl.length ≤ 4 * bn
  sl4 : sl.length ≤ 4 * bn
  bk : ∀ e ∈ bl, e.k ≤ bn ∧ e.n ≤ 3003
  sk : ∀ e ∈ sl, e.k ≤ bn ∧ e.n ≤ 3003
theorem BkAt.below {N : Nat} {w w' : World} {wb : Nat} {vl vbs vkb vss vks : Value} {bn : Nat} {bl sl : List BE} (h : BkAt N w wb vl vbs vkb vss vks bn bl sl) (hb : Below w.heap.size w w') : BkAt N w' wb vl vbs vkb vss vks bn bl sl := by
  have hwl : wb < w.heap.size := (Array.getElem?_eq_some_iff.1 h.blk).1
  have h10 := h.wb10
  exact ⟨(hb.block wb hwl).trans h.blk, ownsRow_of_block h.bs (fun k hk _ => hb.block k hk), ownsRow_of_block h.kb (fun k hk _ => hb.block k hk), ownsRow_of_block h.ss (fun k hk _ => hb.block k hk), ownsRow_of_block h.ks (fun k hk _ => hb.block k hk), fun e he => (h.rd e he).same hb.size (fun k hk _ => hb.block k hk), fun e he => (h.rs e he).same hb.size (fun k hk _ => hb.block k hk), h.tab.same (fun x hx => hb.block x (by omega)), h.wb10, h.bn2, h.bl4, h.sl4, h.bk, h.sk⟩
set_option maxRecDepth 100000 in
set_option maxHeartbeats 3200000 in
theorem bKept_any {N : Nat} {w : World} {wb : Nat} {vl vbs vkb vss vks : Value} {bn : Nat} {bl sl : List BE} (h : BkAt N w wb vl vbs vkb vss vks bn bl sl) :
    Calls Tryz.prog 49 #[.pointer (some ⟨wb, 1, none⟩)] w fun x w' => x = .returned (.bool true) ∧ Below w.heap.size w w' := by
  obtain ⟨ab, cb, hvb⟩ := owned_shape h.bs
  obtain ⟨ak, ck, hvk⟩ := owned_shape h.kb
  obtain ⟨ass, css, hvs⟩ := owned_shape h.ss
  obtain ⟨aq, cq, hvq⟩ := owned_shape h.ks
  subst hvb hvk hvs hvq
  have H : Hid (BkAt N w wb vl (.slice ab bl.length cb) (.slice ak bl.length ck) (.slice ass sl.length css) (.slice aq sl.length cq) bn bl sl) := h
  have hzb : (bl.length : Int) ≤ 6400000000000 := by have := h.bl4; have := h.bn2; omega
  have hzs : (sl.length : Int) ≤ 6400000000000 := by have := h.sl4; have := h.bn2; omega
  have hzn : (bn : Int) ≤ 1600000000000 := by have := h.bn2; omega
  clear h
  go_enter Tryz.func49, Tryz.ntmps49
  go_wp2_with fail
  go_loopg [3] bl.length (fun g i wr => ∃ m : Nat, i = .int .i64 m ∧ m + g = bl.length ∧ Below w.heap.size w wr)
  case atStart => exact ⟨0, rfl, by omega, Below.refl _ _⟩
  case round =>
    obtain ⟨m, rfl, hm, hb⟩ := hrel
    have hB := H.out.below hb
    obtain ⟨k0, k1, k2, k3, k4, k5, kf⟩ := cells6R hB.blk
    have hwl : wb < wr.heap.size := (Array.getElem?_eq_some_iff.1 hB.blk).1
    by_cases hi : m < bl.length
    · obtain ⟨e, he⟩ : ∃ e, bl[m]? = some e := ⟨_, List.getElem?_eq_getElem hi⟩
      obtain ⟨gb, rfl, hc1, hc2⟩ := own_some hB.bs (by omega)
      obtain ⟨gk2, rfl, hd1, hd2⟩ := own_some hB.kb (by omega)
      have q0 := own_at hB.bs (j := m) (u := e.v) (by rw [List.getElem?_map, he]; rfl)
      have q1 := own_at hB.kb (j := m) (u := .int .i64 (e.k : Nat)) (by rw [List.getElem?_map, he]; rfl)
      have hRd := hB.rd e (List.mem_of_getElem? he)
      obtain ⟨ea, ec, hev, hcells⟩ := hRd.shape
      rw [hev] at q0
      have hek := hB.bk e (List.mem_of_getElem? he)
      have hekz : (e.k : Int) ≤ 1600000000000 := by omega
      have henz : (e.n : Int) ≤ 3003 := by omega
      have hgbl := World.block_lt_of_cell? _ _ q0
      have hgkl := World.block_lt_of_cell? _ _ q1
      obtain ⟨wo, hwo⟩ : ∃ wo, wo = wr := ⟨_, rfl⟩
      subst hwo
      obtain ⟨go, hgo⟩ : ∃ go, go = gk := ⟨_, rfl⟩
      subst hgo
      have HO : Hid (Below w.heap.size w wo ∧ (0 < e.n → ∃ g, ea = some ⟨g, 0, none⟩ ∧ e.n ≤ ec ∧ ec ≤ maxLen ∧ g < wo.heap.size ∧ ∀ i, i < e.n → wo.cell? ⟨g, i, none⟩ = some (sgV e.k i))) := ⟨hb, hcells⟩
      clear hB hb he hRd hev hcells k0 k3 k4 k5 kf
      go_wp2_with fail
      go_loopg [4] e.n (fun g i wr => ∃ q : Nat, i = .int .i64 q ∧ q + g = e.n ∧ Below wo.heap.size wo wr)
      case atStart => exact ⟨0, rfl, by omega, Below.refl _ _⟩
      case round =>
        obtain ⟨q, rfl, hq, hb⟩ := hrel
        have k1' := (hb.cell (p := ⟨wb, 1, none⟩) hwl).trans k1
        have k2' := (hb.cell (p := ⟨wb, 2, none⟩) hwl).trans k2
        have q0' := (hb.cell (p := ⟨gb, m, none⟩) hgbl).trans q0
        have q1' := (hb.cell (p := ⟨gk2, m, none⟩) hgkl).trans q1
        by_cases hi2 : q < e.n
        · obtain ⟨g, rfl, he1, he2, hgl, hce⟩ := HO.out.2 (by omega)
          have c0 := (hb.cell (p := ⟨g, q, none⟩) hgl).trans (hce q hi2)
          unfold sgV at c0
          obtain ⟨j, rfl⟩ : ∃ j, gk = j + 1 := ⟨gk - 1, by omega⟩
          have HB : Hid (Below wo.heap.size wo wr) := hb
          clear hb hce
          go_wp2_with fail
          go_cut [48] from 17 to 48 (fun c wd => c = .bool false ∧ Below wr.heap.size wr wd)
          case first =>
            go_region_with (go_at_call 82; refine (lSign_at e.k q q rfl (by omega) (by omega) _).mono ?_; rintro x w4 ⟨rfl, rfl⟩; unfold sgV)
            all_goals
              go_wp2_with fail
              go_meet
              case rel => exact ⟨by simp, ⟨rfl, rfl, rfl, Nat.le_refl _, fun _ _ => rfl⟩⟩
          case rest =>
            obtain ⟨rfl, b4⟩ := hcut
            go_wp2_with fail
            go_roundg j
            case measure => omega
            case rel => exact ⟨q + 1, by go_num, by omega, HB.out.trans (b4.mono HB.out.size)⟩
        · have hqe : q = e.n := by omega
          subst hqe
          have HB : Hid (Below wo.heap.size wo wr) := hb
          clear hb
          go_wp2_with fail
          go_roundg (go - 1)
          case measure => omega
          case rel => exact ⟨m + 1, by go_num, by omega, HO.out.1.trans (HB.out.mono HO.out.1.size)⟩
    · have hml : m = bl.length := by omega
      subst hml
      obtain ⟨wp, hwp⟩ : ∃ wp, wp = wr := ⟨_, rfl⟩
      subst hwp
      have HP : Hid (Below w.heap.size w wp) := hb
      clear hb hB k0 k2 k3 k4 k5 kf
      go_wp2_with fail
      go_loopg [5] sl.length (fun g i wr => ∃ m : Nat, i = .int .i64 m ∧ m + g = sl.length ∧ Below w.heap.size w wr)
      case atStart => exact ⟨0, rfl, by omega, HP.out⟩
      case round =>
        clear k1 hwl
        obtain ⟨m, rfl, hm3, hb⟩ := hrel
        have hB := H.out.below hb
        obtain ⟨k0, k1, k2, k3, k4, k5, kf⟩ := cells6R hB.blk
        have hwl : wb < wr.heap.size := (Array.getElem?_eq_some_iff.1 hB.blk).1
        by_cases hi3 : m < sl.length
        · obtain ⟨e, he⟩ : ∃ e, sl[m]? = some e := ⟨_, List.getElem?_eq_getElem hi3⟩
          obtain ⟨gb, rfl, hc1, hc2⟩ := own_some hB.ss (by omega)
          obtain ⟨gk2, rfl, hd1, hd2⟩ := own_some hB.ks (by omega)
          have q0 := own_at hB.ss (j := m) (u := e.v) (by rw [List.getElem?_map, he]; rfl)
          have q1 := own_at hB.ks (j := m) (u := .int .i64 (e.k : Nat)) (by rw [List.getElem?_map, he]; rfl)
          have hRd := hB.rs e (List.mem_of_getElem? he)
          obtain ⟨ea, ec, hev, hcells⟩ := hRd.shape
          rw [hev] at q0
          have hek := hB.sk e (List.mem_of_getElem? he)
          have hekz : (e.k : Int) ≤ 1600000000000 := by omega
          have henz : (e.n : Int) ≤ 3003 := by omega
          have hgbl := World.block_lt_of_cell? _ _ q0
          have hgkl := World.block_lt_of_cell? _ _ q1
          obtain ⟨wo, hwo⟩ : ∃ wo, wo = wr := ⟨_, rfl⟩
          subst hwo
          obtain ⟨go, hgo⟩ : ∃ go, go = gk := ⟨_, rfl⟩
          subst hgo
          have HT : Hid (TabP wo) := hB.tab
          have HO : Hid (Below w.heap.size w wo ∧ (0 < e.n → ∃ g, ea = some ⟨g, 0, none⟩ ∧ e.n ≤ ec ∧ ec ≤ maxLen ∧ g < wo.heap.size ∧ ∀ i, i < e.n → wo.cell? ⟨g, i, none⟩ = some (stV e.k i))) := ⟨hb, hcells⟩
          clear hB hb he hRd hev hcells k0 k1 k2 k5 kf
          go_wp2_with fail
          refine (itoa_at e.k (by omega) HT.out).mono ?_
          rintro y w1 ⟨rfl, b1⟩
          have k3a := (b1.cell (p := ⟨wb, 3, none⟩) hwl).trans k3
          have q0a := (b1.cell (p := ⟨gb, m, none⟩) hgbl).trans q0
          have hwl1 : wb < w1.heap.size := Nat.lt_of_lt_of_le hwl b1.size
          have hgbl1 : gb < w1.heap.size := Nat.lt_of_lt_of_le hgbl b1.size
          have H1 : Hid (Below wo.heap.size wo w1) := b1
          have hil : (Lib.itoa (e.k : Int)).length ≤ 21 := Lib.itoa_length_le _ (by omega) (by omega)
          have hil2 : ¬ (9223372036854775807 < 4 + (Lib.itoa (e.k : Int)).length) := by omega
          clear b1 k3 k4 q0 q1
          go_wp2_with fail
          have e5 : Value.string (({ data := #[109, 97, 114, 107] } : ByteArray) ++ { data := (Lib.itoa (e.k : Int)).toArray }) = strV (markL e.k) := by
            unfold markL strV
            simp [ByteArray.mk_append_mk]
          rw [e5]
          clear e5 hil hil2
          go_loopg [7] e.n (fun g i wr => ∃ q : Nat, i = .int .i64 q ∧ q + g = e.n ∧ wr = w1)
          case atStart => exact ⟨0, rfl, by omega, rfl⟩
          case round =>
            obtain ⟨q, rfl, hq, rfl⟩ := hrel
            by_cases hi4 : q < e.n
            · obtain ⟨g, rfl, he1, he2, hgl, hce⟩ := HO.out.2 (by omega)
              have c0 := (H1.out.cell (p := ⟨g, q, none⟩) hgl).trans (hce q hi4)
              unfold stV at c0
              have hgl1 : g < wr.heap.size := Nat.lt_of_lt_of_le hgl H1.out.size
              obtain ⟨j, rfl⟩ : ∃ j, gk = j + 1 := ⟨gk - 1, by omega⟩
              clear hce
              go_wp2_with fail
              go_roundg j
              case measure => omega
              case rel => exact ⟨q + 1, by go_num, by omega, rfl⟩
            · have hqe : q = e.n := by omega
              subst hqe
              go_wp2_with fail
              go_roundg (go - 1)
              case measure => omega
              case rel => exact ⟨m + 1, by go_num, by omega, HO.out.1.trans (H1.out.mono HO.out.1.size)⟩
        · have hml : m = sl.length := by omega
          subst hml
          have HF : Hid (Below w.heap.size w wr) := hb
          clear hB hb
          go_wp2_with fail
          go_ret
          exact ⟨rfl, HF.out⟩
end Go.Proofs.YtjmcokcdaddpcaaGreatDoor
