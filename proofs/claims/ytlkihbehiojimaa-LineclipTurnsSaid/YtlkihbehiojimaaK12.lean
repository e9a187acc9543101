/-
  Layer 22: the row turned: the mathematics.
-/
import Derived.Test.YtlkihbehiojimaaK11
namespace Go.Proofs.Ytlkihbehiojimaa
open Go.RowKit Go.Tab Go.WideShapes

theorem shown_swap (px py qx qy : Int) (b : BoxI) : shownB px py qx qy b = shownB qx qy px py b := by
  rw [Bool.eq_iff_iff, shownB_iff, shownB_iff]
  grind
theorem cross_ends (px py qx qy cx cy : Int) : crossI qx qy px py cx cy = - crossI px py qx qy cx cy := by unfold crossI; grind
theorem left_swap (px py qx qy : Int) (b : BoxI) : leftB qx qy px py b = rightSB px py qx qy b := by
  unfold leftB rightSB
  simp only [cross_ends px py qx qy, Int.neg_pos]
theorem beyond_swap (px py qx qy : Int) (b : BoxI) : beyondB qx qy px py b = beyondB px py qx qy b := by
  unfold beyondB
  rw [Int.max_comm qx px, Int.max_comm qy py, Int.min_comm qx px, Int.min_comm qy py]
theorem edge_swap (b : BoxI) (p q : Int × Int) : edgeM b p q = edgeM b q p := by
  unfold edgeM entersB
  rw [beyond_swap p.1 p.2 q.1 q.2, left_swap p.1 p.2 q.1 q.2, ← left_swap q.1 q.2 p.1 p.2]
  rw [Bool.eq_iff_iff]
  simp
  grind
theorem gp_reverse (l : List (Int × Int)) (k : Nat) (hk : k < l.length) : gp l.reverse k = gp l (l.length - 1 - k) := by
  unfold gp
  rw [List.getD_eq_getElem?_getD, List.getD_eq_getElem?_getD, List.getElem?_reverse hk]
theorem shS_reverse (b : BoxI) (l : List (Int × Int)) (k : Nat) (hk : k + 1 < l.length) : shS b l.reverse k = shS b l (l.length - 2 - k) := by
  unfold shS
  rw [gp_reverse l k (by omega), gp_reverse l (k + 1) hk, shown_swap, show l.length - 1 - (k + 1) = l.length - 2 - k by omega, show l.length - 1 - k = l.length - 2 - k + 1 by omega]
theorem parts_reverse (b : BoxI) (l : List (Int × Int)) : partsI (shS b l.reverse) l.length 0 = ((partsI (shS b l) l.length 0).map (flipI l.length)).reverse :=
  parts_flip _ _ _ fun k hk => shS_reverse b l k hk
theorem cnt_reverse (b : BoxI) (l : List (Int × Int)) : cntL (partsI (shS b l.reverse) l.length 0) = cntL (partsI (shS b l) l.length 0) := by
  rw [parts_reverse]
  unfold cntL
  rw [List.map_reverse, List.sum_reverse, List.map_map]
  congr 1
  refine List.map_congr_left fun p hp => ?_
  have h := (parts_maxi _ _ p).1 hp
  have h1 := h.1
  have h2 := h.2.1
  show l.length - 1 - p.1 - (l.length - 1 - p.2) = p.2 - p.1
  omega
theorem any_reverse (b : BoxI) (l : List (Int × Int)) : anyEdge b l.reverse = anyEdge b l := by
  have key : ∀ l : List (Int × Int), anyEdge b l = true → anyEdge b l.reverse = true := by
    intro l h
    unfold anyEdge at h
    rw [List.any_eq_true] at h
    obtain ⟨i, hi, he⟩ := h
    rw [List.mem_range] at hi
    refine anyEdge_yes (i := l.length - 2 - i) (by rw [List.length_reverse]; omega) ?_
    rw [gp_reverse l _ (by omega), gp_reverse l _ (by omega), edge_swap, show l.length - 1 - (l.length - 2 - i + 1) = i by omega, show l.length - 1 - (l.length - 2 - i) = i + 1 by omega]
    exact he
  rw [Bool.eq_iff_iff]
  exact ⟨fun h => by have := key _ h; rwa [List.reverse_reverse] at this, key l⟩
theorem meets_reverse (b : BoxI) (l : List (Int × Int)) : meetsF l.reverse b = meetsF l b := by unfold meetsF; rw [any_reverse]

/-- All of a part is shown. -/
theorem parts_whole (s : Nat → Bool) (m : Nat) (hm : 0 < m) (h : ∀ k, k < m → s k = true) : partsI s (m + 1) 0 = [(0, m)] := by
  have r : runEnd s (m + 1) 0 = m := by
    have := runEnd_spec s (m + 1) _ 0 rfl
    obtain ⟨_, h2, _, h4⟩ := this
    have h2 := h2 (by omega)
    by_cases hr : runEnd s (m + 1) 0 = m
    · exact hr
    · exact absurd ⟨by omega, h _ (by omega)⟩ h4
  rw [partsI_step s (m + 1) (by omega), r, if_pos hm, partsI_end s (m + 1) (by omega)]
  rfl
/-- A part's points. -/
def partL (l : List (Int × Int)) (p : Nat × Nat) : List (Int × Int) := (l.drop p.1).take (p.2 - p.1 + 1)
theorem partL_len (l : List (Int × Int)) (p : Nat × Nat) (h1 : p.1 ≤ p.2) (h2 : p.2 < l.length) : (partL l p).length = p.2 - p.1 + 1 := by
  unfold partL; rw [List.length_take, List.length_drop]; omega
theorem partL_gp (l : List (Int × Int)) (p : Nat × Nat) (j : Nat) (hj : j ≤ p.2 - p.1) : gp (partL l p) j = gp l (p.1 + j) := by
  unfold gp partL
  rw [List.getD_eq_getElem?_getD, List.getD_eq_getElem?_getD, List.getElem?_take_of_lt (by omega), List.getElem?_drop]
theorem partL_cnt (b : BoxI) (l : List (Int × Int)) (p : Nat × Nat) (hp : p ∈ partsI (shS b l) l.length 0) : cntL (partsI (shS b (partL l p)) (partL l p).length 0) = p.2 - p.1 := by
  obtain ⟨h1, h2, h3, _⟩ := (parts_maxi _ _ p).1 hp
  rw [partL_len l p (by omega) h2, parts_whole _ _ (by omega) fun k hk => ?_]
  · simp [cntL]
  · unfold shS
    rw [partL_gp l p k (by omega), partL_gp l p (k + 1) (by omega)]
    exact h3 (p.1 + k) (by omega) (by omega)
theorem part_has (b : BoxI) (l : List (Int × Int)) (p : Nat × Nat) (hp : p ∈ partsI (shS b l) l.length 0) (j : Nat) (hj : j ≤ p.2 - p.1) : b.has (gp l (p.1 + j)).1 (gp l (p.1 + j)).2 = true := by
  obtain ⟨h1, h2, h3, _⟩ := (parts_maxi _ _ p).1 hp
  by_cases h : j < p.2 - p.1
  · exact (shownB_iff.1 (h3 (p.1 + j) (by omega) (by omega))).2.1
  · have := (shownB_iff.1 (h3 (p.1 + j - 1) (by omega) (by omega))).2.2.1
    rwa [show p.1 + j - 1 + 1 = p.1 + j by omega] at this
theorem PtsAt.part {w : World} {g n cp : Nat} {l : List (Int × Int)} (h : PtsAt w (.slice (some ⟨g, 0, none⟩) n cp) l) (p : Nat × Nat) (h1 : p.1 ≤ p.2) (h2 : p.2 < n) (hn : n = l.length) : PtsAt w (rowV g p) (partL l p) := by
  obtain ⟨hl, ⟨_, rfl⟩ | ⟨b', off', cap', hv, hb, hc, hi⟩⟩ := h
  · simp at hn; omega
  · cases hv
    have hlen := partL_len l p h1 (by omega)
    refine ⟨by omega, .inr ⟨g, p.1 * 2, _, by rw [hlen]; rfl, hb, by omega, fun i hi' => ?_⟩⟩
    have := hi (p.1 + i) (by omega)
    rw [show (partL l p).getD i (0, 0) = l.getD (p.1 + i) (0, 0) from partL_gp l p i (by omega), show p.1 * 2 + i * 2 = 0 + (p.1 + i) * 2 by omega]
    exact this
end Go.Proofs.Ytlkihbehiojimaa
