import Derived.Test.YtjmcokcdaddpcaaGreatDoorUo
import Derived.Lib.Join
set_option linter.unusedVariables false
set_option linter.unusedSimpArgs false
namespace Go.Proofs.YtjmcokcdaddpcaaGreatDoor
open Go.RowKit
theorem join_any (g c : Nat) (l : List (List UInt8)) (w : World) (hc : ∀ (j : Nat) (x : List UInt8), l[j]? = some x → w.cell? ⟨g, j, none⟩ = some (strV x)) (hg : g < w.heap.size) (hl : l.length ≤ 100) (hcap : l.length ≤ c) (hJ : (Dsr.joinC l).length ≤ 100000) :
    Calls Tryz.prog 111 #[.slice (some ⟨g, 0, none⟩) l.length c, .string ⟨#[44, 32]⟩] w fun e w' => e = .returned (strV (Dsr.joinC l)) ∧ Below w.heap.size w w' := by
  have e1 : (l.map (fun x => (⟨x.toArray⟩ : ByteArray))).map (·.data.toList) = l := by
    rw [List.map_map]; conv => rhs; rw [← List.map_id l]
    exact List.map_congr_left (fun a _ => by simp)
  have e2 : Lib.join ((l.map (fun x => (⟨x.toArray⟩ : ByteArray))).map (·.data.toList)) (⟨#[44, 32]⟩ : ByteArray).data.toList = Dsr.joinC l := by rw [e1]; rfl
  have h := Tryz.strings_Join g 0 c (l.map (fun x => (⟨x.toArray⟩ : ByteArray))) ⟨#[44, 32]⟩ w (fun j x hx => by
    rw [List.getElem?_map, Option.map_eq_some_iff] at hx
    obtain ⟨y, hy, rfl⟩ := hx
    rw [Nat.zero_add]; exact hc j y hy) hg (by simp; omega) (by simpa using hcap) (by rw [e2]; omega)
  rw [e2, List.length_map] at h
  exact h
theorem ev_str (n j o d x : List UInt8) : (⟨[101, 118, 101, 110, 116, 32].toArray⟩ ++ ⟨n.toArray⟩ ++ ⟨[32, 98, 121, 32].toArray⟩ ++ ⟨j.toArray⟩ ++ ⟨o.toArray⟩ ++ ⟨d.toArray⟩ ++ ⟨x.toArray⟩ ++ ⟨[59, 10].toArray⟩ : ByteArray) = ⟨([101, 118, 101, 110, 116, 32] ++ n ++ [32, 98, 121, 32] ++ j ++ o ++ d ++ x ++ [59, 10]).toArray⟩ := by
  simp only [ByteArray.mk_append_mk]
theorem no_str (a : ByteArray) : a ++ ⟨([] : List UInt8).toArray⟩ = a := by
  apply ByteArray.ext; simp
set_option maxRecDepth 100000 in
set_option maxHeartbeats 6400000 in
theorem evLine_at {w : World} {g c : Nat} (nm : List UInt8) (rs : List (List UInt8)) (dn inn du : Bool) (hc : ∀ (j : Nat) (x : List UInt8), rs[j]? = some x → w.cell? ⟨g, j, none⟩ = some (strV x)) (hg : g < w.heap.size) (hl : rs.length ≤ 100) (hcap : rs.length ≤ c) (hJ : (Dsr.joinC rs).length ≤ 100000) (hn : nm.length ≤ 1000) :
    Calls Tryz.prog 68 #[.agg #[strV nm, .slice (some ⟨g, 0, none⟩) rs.length c, .bool dn, .bool inn, .bool du]] w fun x w' => x = .returned (strV (Dsr.evLine ⟨nm, rs, dn, inn, du⟩)) ∧ Below w.heap.size w w' := by
  have hn' : (nm.length : Int) ≤ 1000 := by omega
  have hJ' : ((Dsr.joinC rs).length : Int) ≤ 100000 := by omega
  have hjoin := fun (W : World) (hb : Below w.heap.size w W) => join_any g c rs W (fun j x hx => (hb.cell (p := ⟨g, j, none⟩) hg).trans (hc j x hx)) (Nat.lt_of_lt_of_le hg hb.size) hl hcap hJ
  have HJ : Hid (∀ (W : World), Below w.heap.size w W → Calls Tryz.prog 111 #[.slice (some ⟨g, 0, none⟩) rs.length c, .string ⟨#[44, 32]⟩] W fun e w' => e = .returned (strV (Dsr.joinC rs)) ∧ Below W.heap.size W w') := hjoin
  have HE : Hid (∀ dn inn du : Bool, Dsr.evLine ⟨nm, rs, dn, inn, du⟩ = [101, 118, 101, 110, 116, 32] ++ nm ++ [32, 98, 121, 32] ++ Dsr.joinC rs ++ (if inn then [] else [32, 111, 117, 116]) ++ (if du then [32, 100, 117, 101] else []) ++ (if dn then [32, 100, 111, 110, 101] else []) ++ [59, 10]) := fun _ _ _ => rfl
  clear hjoin hc hJ
  generalize Dsr.joinC rs = J at *
  go_enter Tryz.func68, Tryz.ntmps68
  go_wp2_with fail
  go_region_with (go_at_call 111; refine (HJ.out _ ((Below.refl _ _).alloc (Nat.le_refl _) _).drew).mono ?_; rintro e w1 ⟨rfl, hb⟩; obtain ⟨k1, f1⟩ := bcell hb)
  all_goals
    have HB : Hid (Below w.heap.size w w1) := below_alloc_drew hb
    have z1 : w.heap.size < (w.alloc (.cells #[strV nm, .slice (some ⟨g, 0, none⟩) rs.length c, .bool dn, .bool inn, .bool du] 144)).drew.heap.size := by show _ < (w.alloc _).heap.size; simp
    clear hb
    cases dn <;> cases inn <;> cases du
    all_goals
      go_wp2_with fail
      go_ret
      refine ⟨?_, HB.out⟩
      rw [HE.out]
      first
        | exact congrArg (fun s => Ending.returned (Value.string s)) (by have h := ev_str nm J [] [] []; simpa [no_str] using h)
        | exact congrArg (fun s => Ending.returned (Value.string s)) (by have h := ev_str nm J [] [32, 100, 117, 101] []; simpa [no_str] using h)
        | exact congrArg (fun s => Ending.returned (Value.string s)) (by have h := ev_str nm J [] [] [32, 100, 111, 110, 101]; simpa [no_str] using h)
        | exact congrArg (fun s => Ending.returned (Value.string s)) (by have h := ev_str nm J [] [32, 100, 117, 101] [32, 100, 111, 110, 101]; simpa [no_str] using h)
        | exact congrArg (fun s => Ending.returned (Value.string s)) (by have h := ev_str nm J [32, 111, 117, 116] [] []; simpa [no_str] using h)
        | exact congrArg (fun s => Ending.returned (Value.string s)) (by have h := ev_str nm J [32, 111, 117, 116] [32, 100, 117, 101] []; simpa [no_str] using h)
        | exact congrArg (fun s => Ending.returned (Value.string s)) (by have h := ev_str nm J [32, 111, 117, 116] [] [32, 100, 111, 110, 101]; simpa [no_str] using h)
        | exact congrArg (fun s => Ending.returned (Value.string s)) (by have h := ev_str nm J [32, 111, 117, 116] [32, 100, 117, 101] [32, 100, 111, 110, 101]; simpa [no_str] using h)
theorem evLine_any {w : World} {g c : Nat} (e : Dsr.Ev) (hc : ∀ (j : Nat) (x : List UInt8), e.roles[j]? = some x → w.cell? ⟨g, j, none⟩ = some (strV x)) (hg : g < w.heap.size) (hl : e.roles.length ≤ 100) (hcap : e.roles.length ≤ c) (hJ : (Dsr.joinC e.roles).length ≤ 100000) (hn : e.name.length ≤ 1000) :
    Calls Tryz.prog 68 #[.agg #[strV e.name, .slice (some ⟨g, 0, none⟩) e.roles.length c, .bool e.done, .bool e.inn, .bool e.due]] w fun x w' => x = .returned (strV (Dsr.evLine e)) ∧ Below w.heap.size w w' :=
  evLine_at e.name e.roles e.done e.inn e.due hc hg hl hcap hJ hn
end Go.Proofs.YtjmcokcdaddpcaaGreatDoor
