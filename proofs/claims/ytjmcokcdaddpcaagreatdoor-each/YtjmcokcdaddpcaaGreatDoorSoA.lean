import Derived.Test.YtjmcokcdaddpcaaGreatDoorCmA
import Derived.Sort.OwnSorted
set_option linter.unusedVariables false
set_option linter.unusedSimpArgs false
namespace Go.Proofs.YtjmcokcdaddpcaaGreatDoor
open Go.RowKit
section
variable {α : Type} [Inhabited α]
theorem flat_get (enc : α → List Value) (k : Nat) (hk : ∀ x, (enc x).length = k) (ds : List α) (j : Nat) (hj : j < ds.length * k) : (ds.flatMap enc)[j]? = some ((enc ds.toArray[j / k]!)[j % k]!) := by
  have k0 : 0 < k := by
    rcases Nat.eq_zero_or_pos k with h | h
    · subst h; simp at hj
    · exact h
  have hq : j / k < ds.length := Nat.div_lt_of_lt_mul (by rw [Nat.mul_comm]; exact hj)
  have hm : j % k < k := Nat.mod_lt _ k0
  have e : j = j / k * k + j % k := by rw [Nat.mul_comm]; exact (Nat.div_add_mod j k).symm
  have h := Dsr.flatM k enc hk ds (j / k) ds[j / k] (j % k) (List.getElem?_eq_getElem hq) hm
  rw [← e] at h
  rw [h]
  have e2 : ds.toArray[j / k]! = ds[j / k] := by rw [getElem!_pos _ _ (by simpa using hq)]; simp
  rw [e2, List.getElem?_eq_getElem (by rw [hk]; exact hm), getElem!_pos _ _ (by rw [hk]; exact hm)]
theorem holdsK_of {w : World} {g n k : Nat} {cur : Array Value} {e : TypeId} (enc : α → List Value) (hk : ∀ x, (enc x).length = k) (ds : List α) (hn : ds.length = n) (hb : w.heap[g]? = some (.cells cur e (0, 0))) (ht : cur.toList.take (n * k) = ds.flatMap enc) : Sort.HoldsK enc k w g 0 ds.toArray := by
  intro j hj
  rw [Sort.size_flatK] at hj
  have hj' : j < ds.length * k := by simpa using hj
  refine ⟨?_, by simp [World.frozen?, hb]⟩
  rw [Sort.get_flatK _ _ _ _ hj, Nat.zero_add, cell_of_row w g j cur e _ hb]
  have h := flat_get enc k hk ds j hj'
  rw [← ht, List.getElem?_take, if_pos (by rw [← hn]; exact hj')] at h
  show cur[j]? = some _
  rw [← Array.getElem?_toList, h]
  rfl
theorem heap_sortK {w : World} {g m k : Nat} {os : Array Obj} {cur : Array Value} {e : TypeId} {fr : Nat × Nat} (enc : α → List Value) (d : Array α) (hb : w.heap[g]? = some (.cells cur e fr)) :
    (sortWorldK enc k w g 0 m d os).heap[g]? = some (.cells (Sort.putCells id 0 (Sort.flatK enc k d) cur) e fr) := by
  have hg : g < w.heap.size := (Array.getElem?_eq_some_iff.1 hb).1
  unfold sortWorldK Sort.putRowK
  rw [Sort.heap_grow_old _ _ (by simpa [Sort.putRow, Sort.mapBlock, Sort.ahead] using hg)]
  simp [Sort.putRow, Sort.mapBlock, Sort.ahead, Array.getElem?_modify, hb, Sort.onCells]
theorem grown_sortK {w : World} {g m k : Nat} {os : Array Obj} (enc : α → List Value) (d : Array α) : w.grownBy (sortWorldK enc k w g 0 m d os) (some g) := by
  refine ⟨rfl, rfl, rfl, by simp [sortWorldK, Sort.putRowK, Sort.putRow, Sort.mapBlock, Sort.ahead], fun j hj hne => ?_⟩
  unfold sortWorldK Sort.putRowK
  rw [Sort.heap_grow_old _ _ (by simpa [Sort.putRow, Sort.mapBlock, Sort.ahead] using hj)]
  have : g ≠ j := fun e => hne (by rw [e])
  simp [Sort.putRow, Sort.mapBlock, Sort.ahead, Array.getElem?_modify, this]
theorem owns_sortK {w : World} {B g cap n m k : Nat} {e : TypeId} {os : Array Obj} {cur : Array Value} (enc : α → List Value) (hk : ∀ x, (enc x).length = k) (d : Array α) (hl : d.size = n) (hbase : B ≤ g) (hb : w.heap[g]? = some (.cells cur e (0, 0)))
    (h1 : n ≤ cap) (h2 : cap ≤ maxLen) (h3 : cur.size = cap * k) :
    (sortWorldK enc k w g 0 m d os).ownsRow B e k (.slice (some ⟨g, 0, none⟩) n cap) n (d.toList.flatMap enc) := by
  have hlen : (d.toList.flatMap enc).length = n * k := by rw [Dsr.flatLen enc k hk]; simp [hl]
  have hnk : n * k ≤ cap * k := Nat.mul_le_mul_right _ h1
  refine ⟨hlen, .inr ⟨g, cap, _, rfl, hbase, heap_sortK enc d hb, h1, h2, by simp [Sort.putCells, h3], ?_⟩⟩
  apply List.ext_getElem?
  intro j
  by_cases hj : j < n * k
  · rw [List.getElem?_take, if_pos hj, flat_get enc k hk d.toList j (by simpa [hl] using hj), Array.getElem?_toList]
    have hjc : j < cur.size := by omega
    have hjd : j < d.size * k := by rw [hl]; exact hj
    simp only [Sort.putCells, Array.getElem?_mapIdx, Array.getElem?_eq_getElem hjc, Option.map_some]
    rw [if_pos ⟨Nat.zero_le _, by simpa using hjd⟩, Nat.sub_zero, Sort.get_flatK _ _ _ _ hjd]
    rfl
  · rw [List.getElem?_take, if_neg hj, List.getElem?_eq_none (by omega)]
end
end Go.Proofs.YtjmcokcdaddpcaaGreatDoor
