/-
  An owned row of structs of k cells, and the library's words for a row that is sorted in place.
-/
import Derived.Test.YtlgplhanhnjeiaaIa
import Derived.Shelf.SlSortCmp.InsertionK
namespace Go.Proofs.Ytlgplhanhnjeiaa
open Go.RowKit Go.Tab Go.Sort

section
variable {α : Type} [Inhabited α] {enc : α → List Value} {k : Nat}
theorem flatMap_get (hk : ∀ x, (enc x).length = k) (k0 : 0 < k) : ∀ (l : List α) (t : Nat), t < l.length * k → (l.flatMap enc)[t]? = some ((enc l[t / k]!)[t % k]!)
  | [], t, h => by simp at h
  | x :: r, t, h => by
    rw [List.flatMap_cons]
    by_cases ht : t < k
    · rw [List.getElem?_append_left (by rw [hk]; exact ht), Nat.div_eq_of_lt ht, Nat.mod_eq_of_lt ht]
      have : t < (enc x).length := by rw [hk]; exact ht
      simp [this]
    · obtain ⟨s, rfl⟩ : ∃ s, t = s + k := ⟨t - k, by omega⟩
      rw [List.getElem?_append_right (by rw [hk]; omega), hk, Nat.add_sub_cancel, flatMap_get hk k0 r s (by simp [Nat.add_mul] at h; omega), Nat.add_div_right s k0, Nat.add_mod_right]
      simp
theorem flatK_toList (hk : ∀ x, (enc x).length = k) (k0 : 0 < k) (d : Array α) : (flatK enc k d).toList = d.toList.flatMap enc := by
  have hl : (d.toList.flatMap enc).length = d.size * k := by
    rw [List.length_flatMap]
    have : (d.toList.map fun x => (enc x).length) = List.replicate d.toList.length k := by
      rw [List.eq_replicate_iff]
      exact ⟨by simp, fun b hb => by obtain ⟨x, _, rfl⟩ := List.mem_map.1 hb; exact hk x⟩
    rw [this]
    simp
  apply List.ext_getElem?
  intro t
  by_cases ht : t < d.size * k
  · rw [flatMap_get hk k0 _ _ (by simpa using ht), Array.getElem?_toList, getElem?_pos _ _ (by simpa using ht), ← getElem!_pos _ _ (by simpa using ht), get_flatK enc k d t ht, show d.toList[t / k]! = d[t / k]! from Array.getElem!_toList]
  · rw [List.getElem?_eq_none (by simpa using ht), List.getElem?_eq_none (by rw [hl]; omega)]
theorem take_putCellsV (cur F : Array Value) (h : F.size ≤ cur.size) : (putCells id 0 F cur).toList.take F.size = F.toList := by
  apply List.ext_getElem?
  intro j
  by_cases hj : j < F.size
  · rw [List.getElem?_take_of_lt hj]
    have : j < cur.size := by omega
    simp [putCells, hj, this]
  · rw [List.getElem?_eq_none (by simp; omega), List.getElem?_eq_none (by simpa using hj)]

theorem size_insInner' (lt : α → α → Bool) (a : Nat) : ∀ (j : Nat) (d : Array α), (insInner lt a j d).size = d.size
  | 0, d => rfl
  | j + 1, d => by
    rw [insInner]
    split
    · rw [size_insInner' lt a j, size_swp]
    · rfl
theorem size_insOuter' (lt : α → α → Bool) (a b : Nat) (i : Nat) (d : Array α) : (insOuter lt a b i d).size = d.size := by
  obtain ⟨m, hm⟩ : ∃ m, m = b - i := ⟨_, rfl⟩
  induction m generalizing i d with
  | zero => rw [insOuter, if_neg (by omega)]
  | succ m ih => rw [insOuter, if_pos (by omega), ih _ _ (by omega), size_insInner']
theorem size_insertion (lt : α → α → Bool) (d : Array α) (a b : Nat) : (Sort.insertionSort lt d a b).size = d.size := size_insOuter' ..

variable {w : World} {B : Nat} {T : TypeId} {g n cap : Nat} {d : Array α}
/-- What an owned row holds, in the sort's words. -/
theorem holdsK_own (hk : ∀ x, (enc x).length = k) (k0 : 0 < k) (h : w.ownsRow B T k (.slice (some ⟨g, 0, none⟩) n cap) n (d.toList.flatMap enc)) (hn : d.size = n) :
    HoldsK enc k w g 0 d ∧ B ≤ g ∧ g < w.heap.size := by
  obtain ⟨hl, ⟨hv, _⟩ | ⟨g', cap', cur, hv, hb, hh, hc, hm, hs, ht⟩⟩ := h
  · cases hv
  · cases hv
    refine ⟨fun j hj => ?_, hb, (Array.getElem?_eq_some_iff.1 hh).1⟩
    have hj' : j < d.size * k := by simpa using hj
    have hsz : n * k ≤ cur.size := by rw [hs]; exact Nat.mul_le_mul_right k hc
    have hjc : j < cur.size := by rw [hn] at hj'; omega
    simp only [World.cell?, World.frozen?, hh, Nat.zero_add]
    refine ⟨?_, by simp⟩
    show (if false = true then none else cur[j]?) = _
    have h1 : (cur.toList.take (n * k))[j]? = some (flatK enc k d)[j]! := by
      rw [ht, ← flatK_toList hk k0, Array.getElem?_toList, getElem?_pos (flatK enc k d) j hj, ← getElem!_pos (flatK enc k d) j hj]
    rw [List.getElem?_take_of_lt (by rw [← hn]; exact hj')] at h1
    simpa using h1
/-- The row behind a sort in place. -/
theorem own_sortWorldK (hk : ∀ x, (enc x).length = k) (k0 : 0 < k) {l0 : List Value} (h : w.ownsRow B T k (.slice (some ⟨g, 0, none⟩) n cap) n l0) (dk : Array α) (hn : dk.size = n) (m : Nat) (os : Array Obj) :
    (sortWorldK enc k w g 0 m dk os).ownsRow B T k (.slice (some ⟨g, 0, none⟩) n cap) n (dk.toList.flatMap enc) ∧ w.grownBy (sortWorldK enc k w g 0 m dk os) (some g) := by
  obtain ⟨hl, ⟨hv, _⟩ | ⟨g', cap', cur, hv, hb, hh, hc, hm, hs, ht⟩⟩ := h
  · cases hv
  · cases hv
    have hg : g < w.heap.size := (Array.getElem?_eq_some_iff.1 hh).1
    have hsz : dk.size * k ≤ cur.size := by rw [hs, hn]; exact Nat.mul_le_mul_right k hc
    have hp : (sortWorldK enc k w g 0 m dk os).heap = (w.heap.modify g (onCells (putCells id 0 (flatK enc k dk)))) ++ os := rfl
    refine ⟨⟨?_, .inr ⟨g, cap, putCells id 0 (flatK enc k dk) cur, rfl, hb, ?_, hc, hm, by simp [putCells, hs], ?_⟩⟩, rfl, rfl, rfl, ?_, ?_⟩
    · rw [← flatK_toList hk k0]; simp [hn]
    · rw [hp, Array.getElem?_append_left (by simpa using hg), Array.getElem?_modify, if_pos rfl, hh]; rfl
    · rw [← flatK_toList hk k0, ← take_putCellsV cur (flatK enc k dk) (by simpa using hsz)]
      simp [hn]
    · rw [hp]; simp
    · intro j hj hne
      rw [hp, Array.getElem?_append_left (by simpa using hj), Array.getElem?_modify, if_neg (fun e => hne (by rw [e]))]
end
end Go.Proofs.Ytlgplhanhnjeiaa
