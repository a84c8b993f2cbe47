import Derived.Test.YtjmcokcdaddpcaaGreatDoorUx
import Derived.Test.YtjmcokcdaddpcaaGreatDoorCsO
import Derived.Test.YtjmcokcdaddpcaaGreatDoorUr
import Derived.Test.YtjmcokcdaddpcaaGreatDoorUv
import Derived.Test.YtjmcokcdaddpcaaGreatDoorUw
import Derived.Laws.BytesArg
set_option linter.unusedVariables false
set_option linter.unusedSimpArgs false
namespace Go.Proofs.YtjmcokcdaddpcaaGreatDoor
open Go.RowKit
/-- What New hands back. -/
def NewP (N : Nat) (t : List UInt8) (w' : World) (pv sv : Value) (fe : Nat) : Prop :=
  (fe ≠ 0 ∧ pv = .pointer none ∧ sv = .slice none 0 0 ∧ ∃ fa, PrintP t [] fe fa) ∨
  (fe = 0 ∧ errOf t = none ∧ ∃ es rs, OrdG (Dsr.readR t) es rs ∧ (Dsr.text es rs).length ≤ 400 ∧ ∃ cb M a, pv = ptr cb ∧ CsAt M w' cb (Dsr.newCs es rs) a none ∧ BOwn N w' sv (Dsr.sealed (Dsr.headOf (Dsr.text es rs))) ∧ (∀ k, CFoot (Dsr.newCs es rs) a cb none k → N ≤ k) ∧ ∀ k, sv.ownBlock = some k → ¬ CFoot (Dsr.newCs es rs) a cb none k)
theorem after_begin {w3 w4 : World} {x y z : Value} {es : List Dsr.Ev} {rs : List Dsr.Rl} {a : SA} {rv : List Value} (S : StAt ((w3.alloc (.cells #[x, y, z] 112)).drew.heap.size + 1) w4 es rs a) (b : Below (w3.alloc (.cells #[x, y, z] 112)).drew.heap.size (w3.alloc (.cells #[x, y, z] 112)).drew w4) (hrv : a.rv = rv) :
    Hid (StAt (w3.heap.size + 2) w4 es rs a ∧ Below w3.heap.size w3 w4 ∧ a.rv = rv) ∧ w4.cell? ⟨w3.heap.size, 0, none⟩ = some x ∧ w4.cell? ⟨w3.heap.size, 1, none⟩ = some y ∧ w4.cell? ⟨w3.heap.size, 2, none⟩ = some z ∧ w3.heap.size < w4.heap.size := by
  have p4 : w4.heap[w3.heap.size]? = some (.cells #[x, y, z] 112 (0, 0)) := (b.block _ (by simp)).trans (heap_alloc_new _ _)
  obtain ⟨z0, z1, z2, _⟩ := cells3L p4
  have e : (w3.alloc (.cells #[x, y, z] 112)).drew.heap.size + 1 = w3.heap.size + 2 := by simp
  rw [e] at S
  exact ⟨⟨S, ((Below.refl _ _).alloc (Nat.le_refl _) _).drew.trans (b.mono (by simp)), hrv⟩, z0, z1, z2, (Array.getElem?_eq_some_iff.1 p4).1⟩
theorem newCs_len (es : List Dsr.Ev) (rs : List Dsr.Rl) : (Dsr.newCs es rs).len = (Dsr.sealed (Dsr.headOf (Dsr.text es rs))).length := by simp only [Dsr.newCs]
theorem newCs_hash (es : List Dsr.Ev) (rs : List Dsr.Rl) : (Dsr.newCs es rs).hash = Dsr.hash (Dsr.headOf (Dsr.text es rs)) := by simp only [Dsr.newCs]
theorem newCs_num (es : List Dsr.Ev) (rs : List Dsr.Rl) : (Dsr.newCs es rs).num = 0 := by simp only [Dsr.newCs]
theorem newCs_wait (es : List Dsr.Ev) (rs : List Dsr.Rl) : (Dsr.newCs es rs).wait = none := by simp only [Dsr.newCs]
theorem newCs_ok {es : List Dsr.Ev} {rs : List Dsr.Rl} (hg : GOk es rs) (hl : (Dsr.text es rs).length ≤ 400) : COk (Dsr.newCs es rs) := by
  have h1 := newCs_len es rs
  have h2 := newCs_hash es rs
  have h3 := newCs_num es rs
  have h4 := newCs_wait es rs
  refine ⟨hg, by rw [h3]; omega, by rw [h1, Dsr.sealed_len, Dsr.headOf_len]; omega, by rw [h2]; exact Dsr.hash_lt _, fun q h => by rw [h4] at h; cases h⟩
theorem new_done {w w1 w2 w3 w4 : World} {t : List UInt8} {es : List Dsr.Ev} {rs : List Dsr.Rl} {B : Nat} {ve vr : Value} {rv : List Value} {a : SA} {sa : Option Addr} {sn sc : Nat} (b1 : Below w.heap.size w w1) (hG : GrAt B w1 es rs ve vr rv) (hg : GOk es rs) (hB : w.heap.size ≤ B) (hl : (Dsr.text es rs).length ≤ 400) (b3 : Below w1.heap.size w1 w3) (ho : BOwn w2.heap.size w3 (.slice sa sn sc) (Dsr.sealed (Dsr.headOf (Dsr.text es rs)))) (h12 : w1.heap.size ≤ w2.heap.size)
    (h5 : StAt (w3.heap.size + 2) w4 es rs a ∧ Below w3.heap.size w3 w4 ∧ a.rv = rv) (hn : errOf t = none) (hO : OrdG (Dsr.readR t) es rs) :
    Below w.heap.size w (w4.alloc (.cells #[ptr a.sb, .int .u32 0, .int .i64 sn, .int .u32 (Dsr.hash (Dsr.headOf (Dsr.text es rs)) : Nat), .pointer none] 119)) ∧ NewP w.heap.size t (w4.alloc (.cells #[ptr a.sb, .int .u32 0, .int .i64 sn, .int .u32 (Dsr.hash (Dsr.headOf (Dsr.text es rs)) : Nat), .pointer none] 119)) (ptr w4.heap.size) (.slice sa sn sc) 0 := by
  obtain ⟨S, b4, hrv⟩ := h5
  have s1 := b1.size
  have s3 := b3.size
  have s4 := b4.size
  have hsn := ho.len
  have hfl : ∀ k, Foot es rs a k → k < w4.heap.size ∧ w.heap.size ≤ k ∧ (k < w1.heap.size ∨ w3.heap.size ≤ k) := fun k hk => by
    rcases hk with hk | ⟨v, hv, hvb⟩
    · have := S.rows.lt hk; omega
    · obtain ⟨i, e, he, hvi⟩ := S.rvAt hv
      rw [hrv] at hvi
      have := (hG.rol i e v he hvi).lt k hvb
      omega
  have bAll : Below w.heap.size w (w4.alloc (.cells #[ptr a.sb, .int .u32 0, .int .i64 sn, .int .u32 (Dsr.hash (Dsr.headOf (Dsr.text es rs)) : Nat), .pointer none] 119)) := ((b1.trans (b3.mono s1)).trans (b4.mono (by omega))).alloc (by omega) _
  refine ⟨bAll, .inr ⟨rfl, hn, es, rs, hO, hl, w4.heap.size, w3.heap.size + 2, a, rfl, ?_, ?_, ?_, ?_⟩⟩
  · refine ⟨S.alloc _, ?_, rfl, (fun b q h1 h2 => by cases h1), by have := S.sbLt; omega, ⟨fun hf => by have := hfl _ hf; omega, fun b hb => by cases hb⟩, newCs_ok hg hl⟩
    · have e := heap_alloc_new w4 (.cells #[ptr a.sb, .int .u32 0, .int .i64 sn, .int .u32 (Dsr.hash (Dsr.headOf (Dsr.text es rs)) : Nat), .pointer none] 119)
      have e2 : csB a.sb (Dsr.newCs es rs) (.pointer none) = .cells #[ptr a.sb, .int .u32 0, .int .i64 sn, .int .u32 (Dsr.hash (Dsr.headOf (Dsr.text es rs)) : Nat), .pointer none] 119 (0, 0) := by
        unfold csB
        rw [newCs_num, newCs_len, newCs_hash, ← hsn]
        rfl
      show _ = some (csB a.sb (Dsr.newCs es rs) (.pointer none))
      rw [e2]
      exact e
  · refine Go.Joins.ownsRow_le (BOwn.block ho (fun k hk hv => ?_)) (by omega)
    rw [Below.heap_alloc _ _ _ (by omega), b4.block k hk]
  · intro k hk
    rcases hk with rfl | hk | hk
    · omega
    · cases hk
    · exact (hfl k hk).2.1
  · intro k hk hc
    have := World.ownsRow.lt ho k hk
    rcases hc with rfl | hc | hc
    · omega
    · cases hc
    · have := hfl k hc; omega
set_option maxRecDepth 100000 in
set_option maxHeartbeats 3200000 in
theorem new_any {w : World} {t : ByteArray} (hS : SignsIn w) (hG : errOf t.data.toList = none → ∀ es rs, OrdG (Dsr.readR t.data.toList) es rs → GOk es rs) :
    Calls Tryz.prog 21 #[.string t] w fun x w' => ∃ pv sa n sc fe, x = .returned (.tuple #[pv, .slice sa n sc, .int .i64 (fe : Nat)]) ∧ Below w.heap.size w w' ∧ NewP w.heap.size t.data.toList w' pv (.slice sa n sc) fe := by
  have HS : Hid (SignsIn w ∧ (errOf t.data.toList = none → ∀ es rs, OrdG (Dsr.readR t.data.toList) es rs → GOk es rs)) := ⟨hS, hG⟩
  clear hS hG
  go_enter Tryz.func21, Tryz.ntmps21
  go_wp2_with fail
  refine (read_any HS.out.1).mono ?_
  rintro x w1 ⟨gv, fe, fa, rfl, ⟨g1, g2, g3, g4, g5, g6, rfl⟩, b1, hR⟩
  generalize hga : (Value.slice g1 g2 g3) = ga at *
  generalize hgb : (Value.slice g4 g5 g6) = gb at *
  have H1 : Hid (Below w.heap.size w w1 ∧ ReadP w.heap.size t.data.toList w1 (.agg #[ga, gb]) fe fa ∧ SignsIn w1) := ⟨b1, hR, HS.out.1.below b1⟩
  clear b1
  by_cases h0 : fe = 0
  · subst h0
    have hOK : ∃ es rs, OrdG (Dsr.readR t.data.toList) es rs ∧ errOf t.data.toList = none ∧ (Dsr.text es rs).length ≤ 400 ∧ fa = 0 ∧ ∃ B ve vr rv, w.heap.size ≤ B ∧ (.agg #[ga, gb] : Value) = .agg #[ve, vr] ∧ GrAt B w1 es rs ve vr rv ∧ Small es rs := by
      rcases hR with ⟨_, h⟩ | ⟨hn, es, rs, ho, ⟨_, h, _⟩ | ⟨hl, _, hfa, hg⟩⟩
      · exact absurd rfl h
      · cases h
      · exact ⟨es, rs, ho, hn, hl, hfa, hg⟩
    obtain ⟨es, rs, ho, hn, hl, rfl, B, ve, vr, rv, hNB, hgv, hGr, hSm⟩ := hOK
    have hgp : ga = ve ∧ gb = vr := by injection hgv with h; have h := congrArg Array.toList h; injection h with h1 h; injection h with h2 h; exact ⟨h1, h2⟩
    obtain ⟨ega, egb⟩ := hgp
    subst ega egb
    obtain ⟨ae, ce, hve⟩ := owned_shape hGr.evs
    obtain ⟨ar, cr, hvr⟩ := owned_shape hGr.rls
    subst hve hvr
    clear hga hgb
    have H2 : Hid (OrdG (Dsr.readR t.data.toList) es rs ∧ errOf t.data.toList = none ∧ (Dsr.text es rs).length ≤ 400 ∧ GrAt B w1 es rs (.slice ae es.length ce) (.slice ar rs.length cr) rv ∧ Small es rs ∧ GOk es rs ∧ w.heap.size ≤ B) := ⟨ho, hn, hl, hGr, hSm, HS.out.2 hn es rs ho, hNB⟩
    clear ho hn hl hGr hSm hgv hR hNB
    go_wp2_with fail
    refine (text_any (H2.out.2.2.2.1.below (Nat.le_refl _) (((Below.refl _ _).alloc (Nat.le_refl _) _).alloc (by simp) _)) H2.out.2.2.2.2.1 (H1.out.2.2.below (((Below.refl _ _).alloc (Nat.le_refl _) _).alloc (by simp) _))).mono ?_
    rintro x w2 ⟨rfl, b2⟩
    have hsz2 : ((w1.alloc (.cells #[.slice ae es.length ce, .slice ar rs.length cr] 91)).alloc (.cells #[.int .i64 0, .int .i64 0] 93)).heap.size = w1.heap.size + 2 := by simp
    have p2 : w2.heap[w1.heap.size]? = some (.cells #[.slice ae es.length ce, .slice ar rs.length cr] 91 (0, 0)) := (b2.block _ (by rw [hsz2]; omega)).trans ((Below.heap_alloc _ _ _ (by simp)).trans (heap_alloc_new _ _))
    have bw2 : Below w1.heap.size w1 w2 := below_alloc (below_alloc b2)
    have H3 : Hid (Below w1.heap.size w1 w2 ∧ w2.heap[w1.heap.size]? = some (.cells #[.slice ae es.length ce, .slice ar rs.length cr] 91 (0, 0))) := ⟨bw2, p2⟩
    clear b2 hsz2 p2 bw2
    go_wp2_with fail
    refine (recBegin_any w2 (Dsr.text es rs) H2.out.2.2.1).mono ?_
    rintro x w3 ⟨sa, sn, sc, rfl, ho, b3⟩
    have p3 := (b3.block w1.heap.size (Array.getElem?_eq_some_iff.1 H3.out.2).1).trans H3.out.2
    have bw3 : Below w1.heap.size w1 w3 := H3.out.1.trans (b3.mono H3.out.1.size)
    obtain ⟨q0, q1, qf⟩ := cells2 p3
    have hql : w1.heap.size < w3.heap.size := (Array.getElem?_eq_some_iff.1 p3).1
    have H4 : Hid (Below w1.heap.size w1 w3 ∧ BOwn w2.heap.size w3 (.slice sa sn sc) (Dsr.sealed (Dsr.headOf (Dsr.text es rs))) ∧ w1.heap.size ≤ w2.heap.size) := ⟨bw3, ho, H3.out.1.size⟩
    clear b3 p3 bw3 ho
    have HBg : Hid (Calls Tryz.prog 54 #[.agg #[.slice ae es.length ce, .slice ar rs.length cr]] (w3.alloc (.cells #[.int .u32 0, .int .i64 sn, .int .u32 (Dsr.hash (Dsr.headOf (Dsr.text es rs)) : Nat)] 112)).drew fun x w' => ∃ a, x = .returned (ptr a.sb) ∧ StAt ((w3.alloc (.cells #[.int .u32 0, .int .i64 sn, .int .u32 (Dsr.hash (Dsr.headOf (Dsr.text es rs)) : Nat)] 112)).drew.heap.size + 1) w' es rs a ∧ Below (w3.alloc (.cells #[.int .u32 0, .int .i64 sn, .int .u32 (Dsr.hash (Dsr.headOf (Dsr.text es rs)) : Nat)] 112)).drew.heap.size (w3.alloc (.cells #[.int .u32 0, .int .i64 sn, .int .u32 (Dsr.hash (Dsr.headOf (Dsr.text es rs)) : Nat)] 112)).drew w' ∧ a.rv = rv) := stBegin_any (H2.out.2.2.2.1.below (Nat.le_refl _) ((H4.out.1.alloc (by have := H4.out.1.size; omega) _).drew)) H2.out.2.2.2.2.2.1
    go_wp2_with fail
    go_region_with (go_at_call 54; refine HBg.out.mono ?_; rintro x w4 ⟨a4, rfl, S4, b4, hrv4⟩; obtain ⟨H5, z0, z1, z2, zl⟩ := after_begin S4 b4 hrv4; clear S4 b4 hrv4)
    all_goals
      go_wp2_with fail
      go_ret3
      exact ⟨_, _, _, _, 0, rfl, new_done H1.out.1 H2.out.2.2.2.1 H2.out.2.2.2.2.2.1 H2.out.2.2.2.2.2.2 H2.out.2.2.1 H4.out.1 H4.out.2.1 H4.out.2.2 H5.out H2.out.2.1 H2.out.1⟩
  · have hb : ((fe : Int) != 0) = true := by simp; omega
    have HE : Hid (fe ≠ 0 ∧ ∃ fa, PrintP t.data.toList [] fe fa) := by
      refine ⟨h0, fa, ?_⟩
      rcases hR with ⟨h1, h2⟩ | ⟨hn, es, rs, ho, ⟨hl, h1, h2⟩ | ⟨_, h, _⟩⟩
      · exact .inl ⟨h1, h2, rfl⟩
      · exact .inr ⟨hn, es, rs, ho, .inl ⟨hl, h1, h2, rfl⟩⟩
      · exact absurd h h0
    clear hR h0
    subst hga hgb
    go_wp2_with fail
    go_quiet (fail)
    go_wp2_with fail
    go_ret3
    refine ⟨_, _, _, _, fe, rfl, ?_, .inl ⟨HE.out.1, rfl, rfl, HE.out.2⟩⟩
    repeat (first | exact H1.out.1 | refine below_drewN ?_ _ | refine Below.drew ?_ | refine Below.alloc ?_ H1.out.1.size _ | refine Below.alloc ?_ (by simp; have := H1.out.1.size; omega) _)
end Go.Proofs.YtjmcokcdaddpcaaGreatDoor
set_option linter.unusedVariables false
set_option linter.unusedSimpArgs false
namespace Go.Proofs.YtjmcokcdaddpcaaGreatDoor
open Go.RowKit
theorem parse_bd {t : List UInt8} {fe fa : Nat} {l : LK} (h : ParseP t fe fa (some l)) : ∃ ps, Bd l (Dsr.readR t) ps ∧ Dsr.wrongName (Dsr.readR t).uses = none := by
  rcases h with ⟨_, _, _, h⟩ | ⟨_, ts, hL, ⟨_, _, _, _, _, h, _⟩ | ⟨l2, hr2, ⟨_, _, _, _, h⟩ | ⟨hw, x, hx, ⟨_, _, _, h⟩ | ⟨h1, h2, h3, h4⟩⟩⟩⟩
  · cases h
  · cases h
  · cases h
  · cases h
  · cases h4
    rcases read_sim hL with ⟨l3, a, hr, _⟩ | ⟨l3, ps, hr, hb⟩
    · rw [hr] at hr2
      injection hr2 with _ e
      cases e
    · rw [hr] at hr2
      injection hr2 with e _
      subst e
      exact ⟨ps, hb, by rw [← wrong_eq hb]; exact hw⟩
theorem textOf_uniq (l : LK) (x y : List UInt8) (h : TextOf l x) (h' : TextOf l y) : x = y := by
  obtain ⟨ns, es, h1, h2, h3, rfl⟩ := h
  obtain ⟨ns', es', h1', h2', h3', rfl⟩ := h'
  have hn : ns = ns' := sorted_ext lt_irr lt_asy h1 h1' (fun x => by rw [h2, h2'])
  subst hn
  have : ∀ {ns : List (List UInt8)} {es es' : List Dsr.Ev}, EvsOf l ns es → EvsOf l ns es' → es = es' := by
    intro ns
    induction ns with
    | nil => intro es es' a b; rcases es with _ | ⟨e, es⟩ <;> rcases es' with _ | ⟨e', es'⟩ <;> first | rfl | exact a.elim | exact b.elim
    | cons n ns ih =>
      intro es es' a b
      rcases es with _ | ⟨e, es⟩
      · exact a.elim
      · rcases es' with _ | ⟨e', es'⟩
        · exact b.elim
        · obtain ⟨⟨e0, r0, a1, a2, a3, a4⟩, a5⟩ := a
          obtain ⟨⟨e1, r1, b1, b2, b3, b4⟩, b5⟩ := b
          rw [a1] at b1
          cases b1
          have hr : r0 = r1 := sorted_ext lt_irr lt_asy a2 b2 (fun x => by rw [a3, b3])
          rw [ih a5 b5, a4, b4, hr]
  rw [this h3 h3']
theorem lnk_new {t : List UInt8} {fa : Nat} {l : LK} {es : List Dsr.Ev} {rs : List Dsr.Rl} {x : List UInt8} (hp : ParseP t 0 fa (some l)) (hx : TextOf l x) (ho : OrdG (Dsr.readR t) es rs) : x = Dsr.text es rs ∧ Lnk (Dsr.newCs es rs) ⟨l, [], Dsr.sealed (Dsr.headOf x), [], [], []⟩ := by
  obtain ⟨ps, hb, hw⟩ := parse_bd hp
  have hxt := text_same hb hw ho hx
  obtain ⟨h1, h2, h3, h4⟩ := alike_of hb hw ho (Dsr.readR_rd _)
  refine ⟨hxt, ⟨hb.sg, h1, h2, h3, ?_, ?_, ?_, ?_, fun _ => rfl, fun q hq => ?_⟩⟩
  · rw [newCs_num]; rfl
  · rw [newCs_len, hxt]
  · rw [newCs_hash, hxt]
    exact sealed_last _
  · rw [newCs_hash]
    exact Dsr.hash_lt _
  · rw [newCs_wait] at hq
    cases hq
/-- New of both: the same answers, and the cases stand alike. -/
theorem new_link {N N2 : Nat} {t : List UInt8} {w1 w2 : World} {pv sv pv2 sv2 : Value} {fe fe2 : Nat} (h : NewP N t w1 pv sv fe) (h2 : RNewP N2 t w2 pv2 sv2 fe2) :
    fe = fe2 ∧ ((fe ≠ 0 ∧ pv = .pointer none ∧ sv = .slice none 0 0 ∧ pv2 = .pointer none ∧ sv2 = .slice none 0 0) ∨
      (fe = 0 ∧ ∃ es rs cb M a l rb ra, pv = ptr cb ∧ CsAt M w1 cb (Dsr.newCs es rs) a none ∧ BOwn N w1 sv (Dsr.sealed (Dsr.headOf (Dsr.text es rs))) ∧ (∀ k, CFoot (Dsr.newCs es rs) a cb none k → N ≤ k) ∧ (∀ k, sv.ownBlock = some k → ¬ CFoot (Dsr.newCs es rs) a cb none k) ∧ (Dsr.text es rs).length ≤ 400 ∧
        pv2 = ptr rb ∧ RcAt N2 w2 rb ⟨l, [], Dsr.sealed (Dsr.headOf (Dsr.text es rs)), [], [], []⟩ ra ∧ BOwn N2 w2 sv2 (Dsr.sealed (Dsr.headOf (Dsr.text es rs))) ∧ (∀ k, sv2.ownBlock = some k → ¬ RFoot ⟨l, [], Dsr.sealed (Dsr.headOf (Dsr.text es rs)), [], [], []⟩ ra rb k) ∧ Lnk (Dsr.newCs es rs) ⟨l, [], Dsr.sealed (Dsr.headOf (Dsr.text es rs)), [], [], []⟩)) := by
  obtain ⟨fa2, ol, hp, hn, hs⟩ := h2
  rcases ol with _ | l
  · obtain ⟨rfl, rfl⟩ := hn rfl
    have hne := parse_none hp
    rcases h with ⟨h0, rfl, rfl, fa, hpr⟩ | ⟨rfl, herr, es, rs, ho, hl, _⟩
    · obtain ⟨_, e1, _⟩ := print_same hpr (.inl ⟨hp, rfl⟩)
      exact ⟨e1, .inl ⟨h0, rfl, rfl, rfl, rfl⟩⟩
    · have hpr : PrintP t (Dsr.text es rs) 0 0 := .inr ⟨herr, es, rs, ho, .inr ⟨hl, rfl, rfl, rfl⟩⟩
      obtain ⟨_, e1, _⟩ := print_same hpr (.inl ⟨hp, rfl⟩)
      exact absurd e1.symm hne
  · obtain ⟨rfl, rfl, x0, hx0, hl0⟩ := parse_some hp
    obtain ⟨x, rb, ra, hx, rfl, hrc, hbo, hfo⟩ := hs l rfl
    rcases h with ⟨h0, rfl, rfl, fa, hpr⟩ | ⟨rfl, herr, es, rs, ho, hl, cb, M, a, rfl, hcs, hbo1, hf1, hf2⟩
    · obtain ⟨_, e1, _⟩ := print_same hpr (.inr ⟨l, hp, hx⟩)
      exact absurd e1 h0
    · obtain ⟨hxt, hlk⟩ := lnk_new hp hx ho
      subst hxt
      exact ⟨rfl, .inr ⟨rfl, es, rs, cb, M, a, l, rb, ra, rfl, hcs, hbo1, hf1, hf2, hl, rfl, hrc, hbo, hfo, hlk⟩⟩
end Go.Proofs.YtjmcokcdaddpcaaGreatDoor
set_option linter.unusedVariables false
set_option linter.unusedSimpArgs false
namespace Go.Proofs.YtjmcokcdaddpcaaGreatDoor
open Go.RowKit
set_option maxRecDepth 100000 in
/-- Bytes as a text. -/
theorem conv_str {B : Nat} {w : World} {a : Option Addr} {n c : Nat} {bs : List UInt8} (h : BOwn B w (.slice a n c) bs) : (convert 27 9 (.slice a n c)).run Tryz.prog w = .ok (strV bs) w := by
  have hu : Tryz.prog.underlying 5 = some (.int .u8) := Tryz.underlying5
  have hs : Tryz.prog.underlying 9 = some .string := Tryz.underlying9
  have hn := h.len
  rcases h.2 with ⟨h1, h2⟩ | ⟨g, cap, cur, h1, hB, hb, h2, h3, h4, h5⟩
  · injection h1 with e1 e2 e3
    subst e1 e2 e3
    have hb : bs = [] := List.eq_nil_of_length_eq_zero h2
    subst hb
    rw [run_convert_bytes_nil (P := Tryz.prog) w 27 5 Tryz.underlying27 hu 0 0 9 hs]
    rfl
  · injection h1 with e1 e2 e3
    subst e1 e3
    have hc := h.row
    have hx := run_convert_bytes_arg (P := Tryz.prog) w 27 5 Tryz.underlying27 hu g 0 n c (bs.map fun b => (b.toNat : Int)) (by rw [List.length_map]; exact hn.symm) (fun i hi => by
      have hi2 : i < bs.length := by omega
      rw [Nat.zero_add]
      have := own_at hc (j := i) (u := byV bs[i]) (by rw [List.getElem?_map, List.getElem?_eq_getElem hi2]; rfl)
      rw [this]
      simp [List.getD, hi2]) 9 hs
    rw [hx]
    congr 1
    unfold strOfNums strV
    congr 2
    simp
    have he : ((fun n : Int => UInt8.ofNat n.toNat) ∘ fun b : UInt8 => (b.toNat : Int)) = id := funext fun b => by simp
    rw [he, List.map_id]
theorem cfoot_lt {M : Nat} {w : World} {cb : Nat} {c : Dsr.Cs} {a : SA} {wk : Option Nat} (h : CsAt M w cb c a wk) {k : Nat} (hk : CFoot c a cb wk k) : k < w.heap.size := by
  rcases hk with rfl | hk | hk
  · exact h.lt
  · rcases hc : c.wait with _ | q
    · have := h.wsome
      rw [hk, hc] at this
      cases this
    · exact (Array.getElem?_eq_some_iff.1 (h.wt k q hk hc)).1
  · rcases hk with hk | ⟨v, hv, hvb⟩
    · exact (h.st.rows.lt hk).2
    · obtain ⟨i, e, he, hvi⟩ := h.st.rvAt hv
      obtain ⟨⟨B', ho⟩, hl⟩ := h.st.rol i e v he hvi
      exact (ho.lt k hvb).2
theorem PairOk.reown {w : World} {ω ω' : Nat → Nat} {i : Nat} {p : PSt} (h : PairOk w ω i p) (hω : ∀ k, PFoot p k ∨ QFoot p k → ω' k = ω k) : PairOk w ω' i p :=
  ⟨h.pr, h.rf, fun k hk => (hω k (.inl hk)).trans (h.po k hk), fun k hk => (hω k (.inr hk)).trans (h.qo k hk), h.lk⟩
theorem pair_bytes {wz : World} {N : Nat} {w w' : World} {ω ω' : Nat → Nat} {s : WS} {vb : Value} {n i : Nat} {p : PSt} (h : WInv wz N w ω s) (hp : PairOk w ω i p) (hP : BytesP N w s.wb s.vl s.vbs s.vkb s.vss s.vks vb s.bn n s.bl w') (hvb : ∀ k, vb.ownBlock = some k → ω k = 2) (hω : ∀ k, k < w.heap.size → ω' k = ω k) : PairOk w' ω' i p := by
  obtain ⟨vbs', vkb', vg, vh, vj, hblk, hbs, hkb, hrd, hkp, hf1, hf2, hf3⟩ := hP
  have hSo : ∀ k, BytS s.wb s.vbs s.vkb vb k → ω k = 1 ∨ ω k = 2 := fun k hk => by
    rcases hk with rfl | hk | hk | hk
    · exact .inl (h.o1 _ (.inl rfl))
    · exact .inl (h.o1 _ (.inr (.inr (.inl hk))))
    · exact .inl (h.o1 _ (.inr (.inr (.inr (.inl hk)))))
    · exact .inr (hvb k hk)
  refine (hp.kept hkp (fun k hS _ => by rcases hSo k hS with e | e <;> omega) (fun _ => 0)).reown (fun k hk => ?_)
  rw [ownN_old (hp.lt hk)]
  exact hω k (hp.lt hk)
/-- A text that is let in. -/
def LetIn (t : List UInt8) : Prop := errOf t = none ∧ ∀ es rs, OrdG (Dsr.readR t) es rs → (Dsr.text es rs).length ≤ 400
theorem let_zero {N : Nat} {t : List UInt8} {w1 : World} {pv sv : Value} {fe : Nat} (h : NewP N t w1 pv sv fe) (hl : LetIn t) : fe = 0 := by
  rcases h with ⟨h0, rfl, rfl, fa, hpr⟩ | ⟨rfl, _⟩
  · rcases hpr with ⟨h1, _, _⟩ | ⟨_, es, rs, ho, ⟨h1, _⟩ | ⟨_, h1, _⟩⟩
    · rw [hl.1] at h1; cases h1
    · have := hl.2 es rs ho; omega
    · exact absurd h1 h0
  · rfl
theorem info_pair : (Tryz.prog.info? 159).map (fun i => (i.zero, i.size, i.bytes)) = some (some (.agg #[.pointer none, .pointer none, .slice none 0 0, .slice none 0 0]), 4, 64) := by kernel_rfl
theorem after_pair {wz : World} {N : Nat} {w3 w4 : World} {ω3 : Nat → Nat} {s s3 : WS} {p : PSt} {al : Option Addr} {cl g cap : Nat} {o : Obj} (h : Hid (WInv wz N w3 ω3 s3 ∧ PairOk w3 ω3 s.ps.length p ∧ (s3.wb = s.wb ∧ s3.bn = s.bn + 1 ∧ s3.ps = s.ps ∧ s3.vl = s.vl) ∧ s.vl = .slice al s.ps.length cl ∧ w3.ownsRow N 159 4 (.slice al s.ps.length cl) s.ps.length (s.ps.flatMap prC)))
    (hown : w4.ownsRow N 159 4 (.slice (some ⟨g, 0, none⟩) (s.ps.length + 1) cap) (s.ps.length + 1) (s.ps.flatMap prC ++ prC p)) (hg : (w3.alloc o).grownBy w4 (Value.slice al s.ps.length cl).ownBlock) (hat : (Value.slice al s.ps.length cl).ownBlock = some g ∨ g = w3.heap.size + 1) (hpn : s.ps.length ≤ s.bn) :
    Hid (∃ ω', WInv wz N (w4.setCell ⟨s.wb, 0, none⟩ (.slice (some ⟨g, 0, none⟩) (s.ps.length + 1) cap)) ω' { s3 with vl := .slice (some ⟨g, 0, none⟩) (s.ps.length + 1) cap, ps := s3.ps ++ [p] }) ∧ w4.cell? ⟨s.wb, 0, none⟩ = some (.slice al s.ps.length cl) ∧ w4.frozen? ⟨s.wb, 0, none⟩ = false ∧ s.wb < w4.heap.size := by
  obtain ⟨hW, hp, ⟨e1, e2, e3, e4⟩, hvl, hlr⟩ := h.out
  have hblk := hW.bk.blk
  rw [e1] at hblk
  obtain ⟨pb4, pb5, prow, pkp, pg⟩ := put_rowM (j := 0) hblk (by decide) hlr hown hg hat
  obtain ⟨s0, s1, s2, s3', s4, s5, sf⟩ := cells6R pb4
  rw [e4, hvl] at s0
  refine ⟨?_, s0, sf 0, (Array.getElem?_eq_some_iff.1 pb4).1⟩
  have hI := inv_pair (w' := w4.setCell ⟨s.wb, 0, none⟩ (.slice (some ⟨g, 0, none⟩) (s.ps.length + 1) cap)) hW (vl' := .slice (some ⟨g, 0, none⟩) (s.ps.length + 1) cap) (p := p) (by rw [e3]; exact hp) (by rw [e1]; exact pb5) (by rw [e3]; exact prow) (by rw [e1, e4, hvl]; exact pkp) (fun k hk => by
    have hgk : g = k := by simpa [Value.ownBlock] using hk
    subst hgk
    rw [e4, hvl]
    exact pg) (by rw [e3, e2]; omega)
  exact hI
set_option maxRecDepth 100000 in
set_option maxHeartbeats 3200000 in
theorem wBegins_any {wz : World} {N : Nat} {w : World} {ω : Nat → Nat} {s : WS} (h : WInv wz N w ω s) (t : ByteArray) (hbn : s.bn < 1600000000000) :
    Calls Tryz.prog 47 #[ptr s.wb, .string t] w fun x w' => x = .returned (.bool true) ∧ ∃ ω' s', WInv wz N w' ω' s' ∧ s'.wb = s.wb ∧ s'.bn = s.bn + 1 ∧ s.ps.length ≤ s'.ps.length ∧ (LetIn t.data.toList → s'.ps.length = s.ps.length + 1) ∧ ((∀ p ∈ s.ps, p.st = false) → ∀ p ∈ s'.ps, p.st = false) := by
  have H : Hid (WInv wz N w ω s) := h
  clear h
  go_enter Tryz.func47, Tryz.ntmps47
  go_wp2_with fail
  refine (new_any H.out.sg (fun herr es rs ho => gok_all t w herr es rs ho)).mono ?_
  rintro y w1 ⟨pv, sa, n, sc, fe, rfl, b1, hN1⟩
  have H1 : Hid (Below w.heap.size w w1 ∧ NewP w.heap.size t.data.toList w1 pv (.slice sa n sc) fe) := ⟨b1, hN1⟩
  clear b1 hN1
  go_wp2_with fail
  refine (rcNew_any t w1 textOf_uniq).mono ?_
  rintro y w2 ⟨pv2, sa2, n2, sc2, fe2, rfl, b2, hR2⟩
  obtain ⟨hfe, hcase⟩ := new_link H1.out.2 hR2
  subst hfe
  rcases hcase with ⟨h0, rfl, hs1, rfl, hs2⟩ | ⟨rfl, es, rs, cb, M, a, l, rb, ra, rfl, hcs, hbo1, hf1, hf2, hl4, rfl, hrc, hbo2, hfo2, hlk⟩
  · injection hs1 with e1 e2 e3
    injection hs2 with e4 e5 e6
    subst e1 e2 e3 e4 e5 e6
    have hw2 : Below w.heap.size w w2 := H1.out.1.trans (b2.mono H1.out.1.size)
    have W2 : Hid (WInv wz N w2 (ownN w ω fun _ => 0) s) := inv_below H.out hw2 _
    have hnil : BOwn 0 w2 (.slice none 0 0) [] := World.ownsRow_nil _ _ _ _
    have hcv := conv_str hnil
    have h0' : ((fe : Int) != 0) = true := by simp; omega
    have HL : Hid (¬ LetIn t.data.toList) := fun hl => h0 (let_zero H1.out.2 hl)
    clear hR2 b2 hw2 hnil
    go_wp2_with fail
    refine (bBytes_any (vb := .slice none 0 0) (bs := []) (B := 0) W2.out.bk.blk W2.out.bk.bs W2.out.bk.kb W2.out.bk.rd (World.ownsRow_nil _ _ _ _) (fun e he x hx hn => by cases hn) (by simp) (by have := W2.out.bk.bl4; omega) (by omega) W2.out.NL (Nat.zero_le _)).mono ?_
    rintro y w3 ⟨rfl, hP⟩
    have HF : Hid (∃ ω' s', WInv wz N w3 ω' s' ∧ s'.wb = s.wb ∧ s'.bn = s.bn + 1 ∧ s'.ps = s.ps ∧ s'.vl = s.vl ∧ ∀ k, k < w2.heap.size → ω' k = (ownN w ω fun _ => 0) k) := inv_bytes W2.out (xs := []) (B := 0) (World.ownsRow_nil _ _ _ _) hP (fun k hk => by cases hk) (by simp) hbn
    clear hP hcv
    go_wp2_with fail
    go_ret
    obtain ⟨ω', s', h1, h2, h3, h4, _⟩ := HF.out
    exact ⟨rfl, ω', s', h1, h2, h3, by rw [h4]; exact Nat.le_refl _, fun hl => absurd hl HL.out, fun hf => by rw [h4]; exact hf⟩
  · obtain ⟨X, hX⟩ : ∃ X, X = Dsr.sealed (Dsr.headOf (Dsr.text es rs)) := ⟨_, rfl⟩
    rw [← hX] at hbo1 hrc hbo2 hfo2 hlk
    have hXl : X.length ≤ 3000 := by rw [hX, Dsr.sealed_len, Dsr.headOf_len]; omega
    have hX0 : 0 < X.length := by rw [hX, Dsr.sealed_len, Dsr.headOf_len]; omega
    clear hX
    have hw2 : Below w.heap.size w w2 := H1.out.1.trans (b2.mono H1.out.1.size)
    have hcv := conv_str (hbo1.below b2)
    have hcv2 := conv_str hbo2
    have hXX : (X != X) = false := by simp
    obtain ⟨q, hq1, hq2, hq3⟩ : ∃ q : Nat → Nat, (∀ k, CFoot (Dsr.newCs es rs) a cb none k → q k = 3 + 2 * s.ps.length) ∧ (∀ k, (Value.slice sa n sc).ownBlock = some k → q k = 2) ∧ ∀ k, w1.heap.size ≤ k → q k = 4 + 2 * s.ps.length := by
      classical
      refine ⟨fun k => if CFoot (Dsr.newCs es rs) a cb none k then 3 + 2 * s.ps.length else if (Value.slice sa n sc).ownBlock = some k then 2 else 4 + 2 * s.ps.length, fun k hk => if_pos hk, fun k hk => (if_neg (hf2 k hk)).trans (if_pos hk), fun k hk => (if_neg (fun hc => ?_)).trans (if_neg (fun hc => ?_))⟩
      · have := cfoot_lt hcs hc; omega
      · have := (World.ownsRow.lt hbo1 k hc).2; omega
    have W2 : Hid (WInv wz N w2 (ownN w ω q) s) := inv_below H.out hw2 q
    have hs1 : w.heap.size ≤ w1.heap.size := H1.out.1.size
    have HPK : Hid (PairOk w2 (ownN w ω q) s.ps.length ⟨cb, M, Dsr.newCs es rs, a, none, rb, w1.heap.size, ⟨l, [], X, [], [], []⟩, ra, .slice sa2 n2 sc2, .slice none 0 0, [], false⟩) := by
      refine ⟨hcs.below b2, ⟨hrc, ⟨X, own_mono hbo2 (Nat.zero_le _), hX0, by simp; omega⟩, World.ownsRow_nil _ _ _ _, by simp, fun _ hh => absurd rfl hh⟩, fun k hk => ?_, fun k hk => ?_, hlk⟩
      · rw [ownN_new (hf1 k hk)]; exact hq1 k hk
      · have hk1 : w1.heap.size ≤ k := by
          rcases hk with hk | hk | hk
          · exact (hrc.footLt hk).1
          · exact (World.ownsRow.lt hbo2 k hk).1
          · cases hk
        rw [ownN_new (by omega)]; exact hq3 k hk1
    have HVB : Hid ((∀ k, (Value.slice sa n sc).ownBlock = some k → (ownN w ω q) k = 2 ∧ w.heap.size ≤ k) ∧ BOwn w.heap.size w2 (.slice sa n sc) X) := ⟨fun k hk => by
      have := (World.ownsRow.lt hbo1 k hk).1
      exact ⟨by rw [ownN_new this]; exact hq2 k hk, this⟩, hbo1.below b2⟩
    have hw2s : w.heap.size ≤ w2.heap.size := hw2.size
    clear hcs hbo1 hf1 hf2 hrc hbo2 hfo2 hlk hq1 hq2 hq3 hR2 b2 hw2
    go_wp2_with fail
    refine (bBytes_any W2.out.bk.blk W2.out.bk.bs W2.out.bk.kb W2.out.bk.rd HVB.out.2 (fun e he x hx hn => by
      obtain ⟨cc, hcc⟩ := (H.out.bk.rd e he).type hx
      have := (Array.getElem?_eq_some_iff.1 hcc).1
      have := (HVB.out.1 x hn).2
      omega) hXl (by have := W2.out.bk.bl4; omega) (by omega) W2.out.NL hw2s).mono ?_
    rintro y w3 ⟨rfl, hP⟩
    obtain ⟨ω3, s3, hW3, e1, e2, e3, e4, hω3⟩ := inv_bytes W2.out HVB.out.2 hP (fun k hk => (HVB.out.1 k hk).1) hXl hbn
    have hpk3 := pair_bytes W2.out HPK.out hP (fun k hk => (HVB.out.1 k hk).1) hω3
    have hblk3 := hW3.bk.blk
    rw [e1, e4] at hblk3
    obtain ⟨k0, k1, k2, k3, k4, k5, kf⟩ := cells6R hblk3
    have hlr3 := hW3.lr
    rw [e3, e4] at hlr3
    obtain ⟨al, cl, hvl⟩ := owned_shape hlr3
    rw [hvl] at k0 hlr3
    have hwl3 : s.wb < w3.heap.size := (Array.getElem?_eq_some_iff.1 hblk3).1
    have hps : (s.ps.length : Int) ≤ 1600000000000 := by have := H.out.pn; omega
    have hN3 : N ≤ w3.heap.size := hW3.NL
    have H3 : Hid (WInv wz N w3 ω3 s3 ∧ PairOk w3 ω3 s.ps.length ⟨cb, M, Dsr.newCs es rs, a, none, rb, w1.heap.size, ⟨l, [], X, [], [], []⟩, ra, .slice sa2 n2 sc2, .slice none 0 0, [], false⟩ ∧ (s3.wb = s.wb ∧ s3.bn = s.bn + 1 ∧ s3.ps = s.ps ∧ s3.vl = s.vl) ∧ s.vl = .slice al s.ps.length cl ∧ w3.ownsRow N 159 4 (.slice al s.ps.length cl) s.ps.length (s.ps.flatMap prC)) := ⟨hW3, hpk3, ⟨e1, e2, e3, e4⟩, hvl, hlr3⟩
    obtain ⟨i0, hi0, hz0, hz1, hz2⟩ := info_parts info_pair
    clear hW3 hpk3 hblk3 hlr3 e1 e2 e3 e4 hω3 hP hvl k1 k2 k3 k4 k5 kf hcv hcv2
    go_wp2_with (at_builtin; go_loud (refine wpList_append_lies _ rfl (.tmp 51) (.tmp 56) 102 rfl N 159 i0 _ 4 64 Tryz.underlying102 hi0 hz0 hz1 hz2 rfl (by decide) (.slice al s.ps.length cl) s.ps.length _ (by simp [Act.eval, Act.put]) (H3.out.2.2.2.2.alloc _) ⟨w3.heap.size, 0, none⟩ 1 1 [ptr cb, ptr rb, .slice sa2 n2 sc2, .slice none 0 0] (by simp [Act.eval, Act.put]) rfl (by exact news_l (by simp)) (by intro u hu; simp at hu; rcases hu with rfl | rfl | rfl | rfl <;> rfl) (by decide) (by unfold maxLen; omega) (by omega) (by simp; omega) _ rfl ?_); intro g4 cap4 w4 hown hgrow hat hlt5; obtain ⟨HF, k0b, kfb, hwl4⟩ := after_pair H3 hown hgrow (by simpa using hat) H.out.pn; clear hown hgrow hat hlt5)
    go_wp2_with fail
    go_ret
    obtain ⟨ω', hW⟩ := HF.out
    exact ⟨rfl, ω', _, hW, H3.out.2.2.1.1, H3.out.2.2.1.2.1, (by
      show s.ps.length ≤ (s3.ps ++ [_]).length
      rw [H3.out.2.2.1.2.2.1]; simp), fun _ => by
      show (s3.ps ++ [_]).length = s.ps.length + 1
      rw [H3.out.2.2.1.2.2.1]; simp, fun hf p hp => by
      have hp : p ∈ s3.ps ++ [_] := hp
      rw [H3.out.2.2.1.2.2.1] at hp
      rcases List.mem_append.1 hp with hp | hp
      · exact hf p hp
      · simp at hp; subst hp; rfl⟩
end Go.Proofs.YtjmcokcdaddpcaaGreatDoor
