import Derived.Test.YtjmcokcdaddpcaaGreatDoorUg
import Derived.Test.YtjmcokcdaddpcaaGreatDoorCsO
import Derived.Test.YtjmcokcdaddpcaaGreatDoorReC
set_option linter.unusedVariables false
set_option linter.unusedSimpArgs false
namespace Go.Proofs.YtjmcokcdaddpcaaGreatDoor
open Go.RowKit
/-- What New hands back. -/
def NewP (N : Nat) (t : List UInt8) (w' : World) (pv sv : Value) (fe : Nat) : Prop :=
  (fe ≠ 0 ∧ pv = .pointer none ∧ sv = .slice none 0 0 ∧ ∃ fa, PrintP t [] fe fa) ∨
  (fe = 0 ∧ errOf t = none ∧ ∃ es rs, OrdG (Dsr.readR t) es rs ∧ (Dsr.text es rs).length ≤ 400 ∧ ∃ cb M a, pv = ptr cb ∧ CsAt M w' cb (Dsr.newCs es rs) a none ∧ BOwn N w' sv (Dsr.sealed (Dsr.headOf (Dsr.text es rs))) ∧ (∀ k, CFoot (Dsr.newCs es rs) a cb none k → N ≤ k) ∧ ∀ k, sv.ownBlock = some k → ¬ CFoot (Dsr.newCs es rs) a cb none k)
theorem after_begin {w3 w4 : World} {x y z : Value} {es : List Dsr.Ev} {rs : List Dsr.Rl} {a : SA} {rv : List Value} (S : StAt ((w3.alloc (.cells #[x, y, z] 112)).drew.heap.size + 1) w4 es rs a) (b : Below (w3.alloc (.cells #[x, y, z] 112)).drew.heap.size (w3.alloc (.cells #[x, y, z] 112)).drew w4) (hrv : a.rv = rv) :
    Hid (StAt (w3.heap.size + 2) w4 es rs a ∧ Below w3.heap.size w3 w4 ∧ a.rv = rv) ∧ w4.cell? ⟨w3.heap.size, 0, none⟩ = some x ∧ w4.cell? ⟨w3.heap.size, 1, none⟩ = some y ∧ w4.cell? ⟨w3.heap.size, 2, none⟩ = some z ∧ w3.heap.size < w4.heap.size := by
  have p4 : w4.heap[w3.heap.size]? = some (.cells #[x, y, z] 112 (0, 0)) := (b.block _ (by simp)).trans (heap_alloc_new _ _)
  obtain ⟨z0, z1, z2, _⟩ := cells3L p4
  have e : (w3.alloc (.cells #[x, y, z] 112)).drew.heap.size + 1 = w3.heap.size + 2 := by simp
  rw [e] at S
  exact ⟨⟨S, ((Below.refl _ _).alloc (Nat.le_refl _) _).drew.trans (b.mono (by simp)), hrv⟩, z0, z1, z2, (Array.getElem?_eq_some_iff.1 p4).1⟩
theorem newCs_len (es : List Dsr.Ev) (rs : List Dsr.Rl) : (Dsr.newCs es rs).len = (Dsr.sealed (Dsr.headOf (Dsr.text es rs))).length := by simp only [Dsr.newCs]
theorem newCs_hash (es : List Dsr.Ev) (rs : List Dsr.Rl) : (Dsr.newCs es rs).hash = Dsr.hash (Dsr.headOf (Dsr.text es rs)) := by simp only [Dsr.newCs]
theorem newCs_num (es : List Dsr.Ev) (rs : List Dsr.Rl) : (Dsr.newCs es rs).num = 0 := by simp only [Dsr.newCs]
theorem newCs_wait (es : List Dsr.Ev) (rs : List Dsr.Rl) : (Dsr.newCs es rs).wait = none := by simp only [Dsr.newCs]
theorem newCs_ok {es : List Dsr.Ev} {rs : List Dsr.Rl} (hg : GOk es rs) (hl : (Dsr.text es rs).length ≤ 400) : COk (Dsr.newCs es rs) := by
  have h1 := newCs_len es rs
  have h2 := newCs_hash es rs
  have h3 := newCs_num es rs
  have h4 := newCs_wait es rs
  refine ⟨hg, by rw [h3]; omega, by rw [h1, Dsr.sealed_len, Dsr.headOf_len]; omega, by rw [h2]; exact Dsr.hash_lt _, fun q h => by rw [h4] at h; cases h⟩
theorem new_done {w w1 w2 w3 w4 : World} {t : List UInt8} {es : List Dsr.Ev} {rs : List Dsr.Rl} {B : Nat} {ve vr : Value} {rv : List Value} {a : SA} {sa : Option Addr} {sn sc : Nat} (b1 : Below w.heap.size w w1) (hG : GrAt B w1 es rs ve vr rv) (hg : GOk es rs) (hB : w.heap.size ≤ B) (hl : (Dsr.text es rs).length ≤ 400) (b3 : Below w1.heap.size w1 w3) (ho : BOwn w2.heap.size w3 (.slice sa sn sc) (Dsr.sealed (Dsr.headOf (Dsr.text es rs)))) (h12 : w1.heap.size ≤ w2.heap.size)
    (h5 : StAt (w3.heap.size + 2) w4 es rs a ∧ Below w3.heap.size w3 w4 ∧ a.rv = rv) (hn : errOf t = none) (hO : OrdG (Dsr.readR t) es rs) :
    Below w.heap.size w (w4.alloc (.cells #[ptr a.sb, .int .u32 0, .int .i64 sn, .int .u32 (Dsr.hash (Dsr.headOf (Dsr.text es rs)) : Nat), .pointer none] 119)) ∧ NewP w.heap.size t (w4.alloc (.cells #[ptr a.sb, .int .u32 0, .int .i64 sn, .int .u32 (Dsr.hash (Dsr.headOf (Dsr.text es rs)) : Nat), .pointer none] 119)) (ptr w4.heap.size) (.slice sa sn sc) 0 := by
  obtain ⟨S, b4, hrv⟩ := h5
  have s1 := b1.size
  have s3 := b3.size
  have s4 := b4.size
  have hsn := ho.len
  have hfl : ∀ k, Foot es rs a k → k < w4.heap.size ∧ w.heap.size ≤ k ∧ (k < w1.heap.size ∨ w3.heap.size ≤ k) := fun k hk => by
    rcases hk with hk | ⟨v, hv, hvb⟩
    · have := S.rows.lt hk; omega
    · obtain ⟨i, e, he, hvi⟩ := S.rvAt hv
      rw [hrv] at hvi
      have := (hG.rol i e v he hvi).lt k hvb
      omega
  have bAll : Below w.heap.size w (w4.alloc (.cells #[ptr a.sb, .int .u32 0, .int .i64 sn, .int .u32 (Dsr.hash (Dsr.headOf (Dsr.text es rs)) : Nat), .pointer none] 119)) := ((b1.trans (b3.mono s1)).trans (b4.mono (by omega))).alloc (by omega) _
  refine ⟨bAll, .inr ⟨rfl, hn, es, rs, hO, hl, w4.heap.size, w3.heap.size + 2, a, rfl, ?_, ?_, ?_, ?_⟩⟩
  · refine ⟨S.alloc _, ?_, rfl, (fun b q h1 h2 => by cases h1), by have := S.sbLt; omega, ⟨fun hf => by have := hfl _ hf; omega, fun b hb => by cases hb⟩, newCs_ok hg hl⟩
    · have e := heap_alloc_new w4 (.cells #[ptr a.sb, .int .u32 0, .int .i64 sn, .int .u32 (Dsr.hash (Dsr.headOf (Dsr.text es rs)) : Nat), .pointer none] 119)
      have e2 : csB a.sb (Dsr.newCs es rs) (.pointer none) = .cells #[ptr a.sb, .int .u32 0, .int .i64 sn, .int .u32 (Dsr.hash (Dsr.headOf (Dsr.text es rs)) : Nat), .pointer none] 119 (0, 0) := by
        unfold csB
        rw [newCs_num, newCs_len, newCs_hash, ← hsn]
        rfl
      show _ = some (csB a.sb (Dsr.newCs es rs) (.pointer none))
      rw [e2]
      exact e
  · refine Go.Joins.ownsRow_le (BOwn.block ho (fun k hk hv => ?_)) (by omega)
    rw [Below.heap_alloc _ _ _ (by omega), b4.block k hk]
  · intro k hk
    rcases hk with rfl | hk | hk
    · omega
    · cases hk
    · exact (hfl k hk).2.1
  · intro k hk hc
    have := World.ownsRow.lt ho k hk
    rcases hc with rfl | hc | hc
    · omega
    · cases hc
    · have := hfl k hc; omega
set_option maxRecDepth 100000 in
set_option maxHeartbeats 3200000 in
theorem new_any {w : World} {t : ByteArray} (hS : SignsIn w) (hG : errOf t.data.toList = none → ∀ es rs, OrdG (Dsr.readR t.data.toList) es rs → GOk es rs) :
    Calls Tryz.prog 21 #[.string t] w fun x w' => ∃ pv sa n sc fe, x = .returned (.tuple #[pv, .slice sa n sc, .int .i64 (fe : Nat)]) ∧ Below w.heap.size w w' ∧ NewP w.heap.size t.data.toList w' pv (.slice sa n sc) fe := by
  have HS : Hid (SignsIn w ∧ (errOf t.data.toList = none → ∀ es rs, OrdG (Dsr.readR t.data.toList) es rs → GOk es rs)) := ⟨hS, hG⟩
  clear hS hG
  go_enter Tryz.func21, Tryz.ntmps21
  go_wp2_with fail
  refine (read_any HS.out.1).mono ?_
  rintro x w1 ⟨gv, fe, fa, rfl, ⟨g1, g2, g3, g4, g5, g6, rfl⟩, b1, hR⟩
  generalize hga : (Value.slice g1 g2 g3) = ga at *
  generalize hgb : (Value.slice g4 g5 g6) = gb at *
  have H1 : Hid (Below w.heap.size w w1 ∧ ReadP w.heap.size t.data.toList w1 (.agg #[ga, gb]) fe fa ∧ SignsIn w1) := ⟨b1, hR, HS.out.1.below b1⟩
  clear b1
  by_cases h0 : fe = 0
  · subst h0
    have hOK : ∃ es rs, OrdG (Dsr.readR t.data.toList) es rs ∧ errOf t.data.toList = none ∧ (Dsr.text es rs).length ≤ 400 ∧ fa = 0 ∧ ∃ B ve vr rv, w.heap.size ≤ B ∧ (.agg #[ga, gb] : Value) = .agg #[ve, vr] ∧ GrAt B w1 es rs ve vr rv ∧ Small es rs := by
      rcases hR with ⟨_, h⟩ | ⟨hn, es, rs, ho, ⟨_, h, _⟩ | ⟨hl, _, hfa, hg⟩⟩
      · exact absurd rfl h
      · cases h
      · exact ⟨es, rs, ho, hn, hl, hfa, hg⟩
    obtain ⟨es, rs, ho, hn, hl, rfl, B, ve, vr, rv, hNB, hgv, hGr, hSm⟩ := hOK
    have hgp : ga = ve ∧ gb = vr := by injection hgv with h; have h := congrArg Array.toList h; injection h with h1 h; injection h with h2 h; exact ⟨h1, h2⟩
    obtain ⟨ega, egb⟩ := hgp
    subst ega egb
    obtain ⟨ae, ce, hve⟩ := owned_shape hGr.evs
    obtain ⟨ar, cr, hvr⟩ := owned_shape hGr.rls
    subst hve hvr
    clear hga hgb
    have H2 : Hid (OrdG (Dsr.readR t.data.toList) es rs ∧ errOf t.data.toList = none ∧ (Dsr.text es rs).length ≤ 400 ∧ GrAt B w1 es rs (.slice ae es.length ce) (.slice ar rs.length cr) rv ∧ Small es rs ∧ GOk es rs ∧ w.heap.size ≤ B) := ⟨ho, hn, hl, hGr, hSm, HS.out.2 hn es rs ho, hNB⟩
    clear ho hn hl hGr hSm hgv hR hNB
    go_wp2_with fail
    refine (text_any (H2.out.2.2.2.1.below (Nat.le_refl _) (((Below.refl _ _).alloc (Nat.le_refl _) _).alloc (by simp) _)) H2.out.2.2.2.2.1 (H1.out.2.2.below (((Below.refl _ _).alloc (Nat.le_refl _) _).alloc (by simp) _))).mono ?_
    rintro x w2 ⟨rfl, b2⟩
    have hsz2 : ((w1.alloc (.cells #[.slice ae es.length ce, .slice ar rs.length cr] 91)).alloc (.cells #[.int .i64 0, .int .i64 0] 93)).heap.size = w1.heap.size + 2 := by simp
    have p2 : w2.heap[w1.heap.size]? = some (.cells #[.slice ae es.length ce, .slice ar rs.length cr] 91 (0, 0)) := (b2.block _ (by rw [hsz2]; omega)).trans ((Below.heap_alloc _ _ _ (by simp)).trans (heap_alloc_new _ _))
    have bw2 : Below w1.heap.size w1 w2 := below_alloc (below_alloc b2)
    have H3 : Hid (Below w1.heap.size w1 w2 ∧ w2.heap[w1.heap.size]? = some (.cells #[.slice ae es.length ce, .slice ar rs.length cr] 91 (0, 0))) := ⟨bw2, p2⟩
    clear b2 hsz2 p2 bw2
    go_wp2_with fail
    refine (recBegin_any w2 (Dsr.text es rs) H2.out.2.2.1).mono ?_
    rintro x w3 ⟨sa, sn, sc, rfl, ho, b3⟩
    have p3 := (b3.block w1.heap.size (Array.getElem?_eq_some_iff.1 H3.out.2).1).trans H3.out.2
    have bw3 : Below w1.heap.size w1 w3 := H3.out.1.trans (b3.mono H3.out.1.size)
    obtain ⟨q0, q1, qf⟩ := cells2 p3
    have hql : w1.heap.size < w3.heap.size := (Array.getElem?_eq_some_iff.1 p3).1
    have H4 : Hid (Below w1.heap.size w1 w3 ∧ BOwn w2.heap.size w3 (.slice sa sn sc) (Dsr.sealed (Dsr.headOf (Dsr.text es rs))) ∧ w1.heap.size ≤ w2.heap.size) := ⟨bw3, ho, H3.out.1.size⟩
    clear b3 p3 bw3 ho
    have HBg : Hid (Calls Tryz.prog 54 #[.agg #[.slice ae es.length ce, .slice ar rs.length cr]] (w3.alloc (.cells #[.int .u32 0, .int .i64 sn, .int .u32 (Dsr.hash (Dsr.headOf (Dsr.text es rs)) : Nat)] 112)).drew fun x w' => ∃ a, x = .returned (ptr a.sb) ∧ StAt ((w3.alloc (.cells #[.int .u32 0, .int .i64 sn, .int .u32 (Dsr.hash (Dsr.headOf (Dsr.text es rs)) : Nat)] 112)).drew.heap.size + 1) w' es rs a ∧ Below (w3.alloc (.cells #[.int .u32 0, .int .i64 sn, .int .u32 (Dsr.hash (Dsr.headOf (Dsr.text es rs)) : Nat)] 112)).drew.heap.size (w3.alloc (.cells #[.int .u32 0, .int .i64 sn, .int .u32 (Dsr.hash (Dsr.headOf (Dsr.text es rs)) : Nat)] 112)).drew w' ∧ a.rv = rv) := stBegin_any (H2.out.2.2.2.1.below (Nat.le_refl _) ((H4.out.1.alloc (by have := H4.out.1.size; omega) _).drew)) H2.out.2.2.2.2.2.1
    go_wp2_with fail
    go_region_with (go_at_call 54; refine HBg.out.mono ?_; rintro x w4 ⟨a4, rfl, S4, b4, hrv4⟩; obtain ⟨H5, z0, z1, z2, zl⟩ := after_begin S4 b4 hrv4; clear S4 b4 hrv4)
    all_goals
      go_wp2_with fail
      go_ret3
      exact ⟨_, _, _, _, 0, rfl, new_done H1.out.1 H2.out.2.2.2.1 H2.out.2.2.2.2.2.1 H2.out.2.2.2.2.2.2 H2.out.2.2.1 H4.out.1 H4.out.2.1 H4.out.2.2 H5.out H2.out.2.1 H2.out.1⟩
  · have hb : ((fe : Int) != 0) = true := by simp; omega
    have HE : Hid (fe ≠ 0 ∧ ∃ fa, PrintP t.data.toList [] fe fa) := by
      refine ⟨h0, fa, ?_⟩
      rcases hR with ⟨h1, h2⟩ | ⟨hn, es, rs, ho, ⟨hl, h1, h2⟩ | ⟨_, h, _⟩⟩
      · exact .inl ⟨h1, h2, rfl⟩
      · exact .inr ⟨hn, es, rs, ho, .inl ⟨hl, h1, h2, rfl⟩⟩
      · exact absurd h h0
    clear hR h0
    subst hga hgb
    go_wp2_with fail
    go_quiet (fail)
    go_wp2_with fail
    go_ret3
    refine ⟨_, _, _, _, fe, rfl, ?_, .inl ⟨HE.out.1, rfl, rfl, HE.out.2⟩⟩
    repeat (first | exact H1.out.1 | refine below_drewN ?_ _ | refine Below.drew ?_ | refine Below.alloc ?_ H1.out.1.size _ | refine Below.alloc ?_ (by simp; have := H1.out.1.size; omega) _)
end Go.Proofs.YtjmcokcdaddpcaaGreatDoor
