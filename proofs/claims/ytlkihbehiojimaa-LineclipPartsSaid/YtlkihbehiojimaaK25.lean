/-
  Layer 22: has an edge a point strictly within? just where it has corners on both sides, and isn't beyond (pure).
-/
import Derived.Test.YtlkihbehiojimaaK24
namespace Go.Proofs.Ytlkihbehiojimaa
open Go.RowKit Go.Tab

def lowA (p q l h : Int) : Int × Int := if p < q then (l - p, q - p) else (p - h, p - q)
def upA (p q l h : Int) : Int × Int := if p < q then (h - p, q - p) else (p - l, p - q)
theorem place_low (p q l h : Int) (hne : p ≠ q) : lowA p q l h = placeB p q l ∨ lowA p q l h = placeB p q h := by
  unfold lowA placeB signI
  by_cases hlt : p < q
  · left
    rw [if_pos hlt, if_pos (by omega)]
    simp
  · right
    rw [if_neg hlt, if_neg (by omega), if_pos (by omega)]
    ext <;> simp <;> omega
theorem place_up (p q l h : Int) (hne : p ≠ q) : upA p q l h = placeB p q l ∨ upA p q l h = placeB p q h := by
  unfold upA placeB signI
  by_cases hlt : p < q
  · right
    rw [if_pos hlt, if_pos (by omega)]
    simp
  · left
    rw [if_neg hlt, if_neg (by omega), if_pos (by omega)]
    ext <;> simp <;> omega
theorem place_den (p q c : Int) (hne : p ≠ q) : 0 < (placeB p q c).2 := by
  unfold placeB signI
  by_cases hlt : p < q
  · rw [if_pos (by omega)]; simp; omega
  · rw [if_neg (by omega), if_pos (by omega)]; simp; omega
def lowers (px py qx qy : Int) (b : BoxI) : List (Int × Int) := [(0, 1)] ++ (if px = qx then [] else [lowA px qx b.lx b.hx]) ++ (if py = qy then [] else [lowA py qy b.ly b.hy])
def uppers (px py qx qy : Int) (b : BoxI) : List (Int × Int) := [(1, 1)] ++ (if px = qx then [] else [upA px qx b.lx b.hx]) ++ (if py = qy then [] else [upA py qy b.ly b.hy])
theorem mem_opt {c : Prop} [Decidable c] {x y : Int × Int} : x ∈ (if c then [] else [y]) ↔ ¬ c ∧ x = y := by
  split <;> simp_all
theorem mem_lowers {px py qx qy : Int} {b : BoxI} {u : Int × Int} : u ∈ lowers px py qx qy b ↔ u = (0, 1) ∨ (px ≠ qx ∧ u = lowA px qx b.lx b.hx) ∨ (py ≠ qy ∧ u = lowA py qy b.ly b.hy) := by
  simp only [lowers, List.mem_append, List.mem_singleton, mem_opt, or_assoc, ne_eq]
theorem mem_uppers {px py qx qy : Int} {b : BoxI} {u : Int × Int} : u ∈ uppers px py qx qy b ↔ u = (1, 1) ∨ (px ≠ qx ∧ u = upA px qx b.lx b.hx) ∨ (py ≠ qy ∧ u = upA py qy b.ly b.hy) := by
  simp only [uppers, List.mem_append, List.mem_singleton, mem_opt, or_assoc, ne_eq]
theorem mem_places {px py qx qy : Int} {b : BoxI} {u : Int × Int} : u ∈ places px py qx qy b ↔ u = (0, 1) ∨ u = (1, 1) ∨ (px ≠ qx ∧ u = placeB px qx b.lx) ∨ (py ≠ qy ∧ u = placeB py qy b.ly) ∨ (px ≠ qx ∧ u = placeB px qx b.hx) ∨ (py ≠ qy ∧ u = placeB py qy b.hy) := by
  simp only [places, List.mem_append, List.mem_cons, List.not_mem_nil, or_false, mem_opt, or_assoc, ne_eq]
theorem lowers_places {px py qx qy : Int} {b : BoxI} {u : Int × Int} (h : u ∈ lowers px py qx qy b) : u ∈ places px py qx qy b := by
  rw [mem_places]
  rcases mem_lowers.1 h with h | ⟨h1, h⟩ | ⟨h1, h⟩
  · exact .inl h
  · rcases place_low px qx b.lx b.hx h1 with e | e
    · exact .inr (.inr (.inl ⟨h1, h.trans e⟩))
    · exact .inr (.inr (.inr (.inr (.inl ⟨h1, h.trans e⟩))))
  · rcases place_low py qy b.ly b.hy h1 with e | e
    · exact .inr (.inr (.inr (.inl ⟨h1, h.trans e⟩)))
    · exact .inr (.inr (.inr (.inr (.inr ⟨h1, h.trans e⟩))))
theorem uppers_places {px py qx qy : Int} {b : BoxI} {u : Int × Int} (h : u ∈ uppers px py qx qy b) : u ∈ places px py qx qy b := by
  rw [mem_places]
  rcases mem_uppers.1 h with h | ⟨h1, h⟩ | ⟨h1, h⟩
  · exact .inr (.inl h)
  · rcases place_up px qx b.lx b.hx h1 with e | e
    · exact .inr (.inr (.inl ⟨h1, h.trans e⟩))
    · exact .inr (.inr (.inr (.inr (.inl ⟨h1, h.trans e⟩))))
  · rcases place_up py qy b.ly b.hy h1 with e | e
    · exact .inr (.inr (.inr (.inl ⟨h1, h.trans e⟩)))
    · exact .inr (.inr (.inr (.inr (.inr ⟨h1, h.trans e⟩))))
theorem places_den {px py qx qy : Int} {b : BoxI} {u : Int × Int} (h : u ∈ places px py qx qy b) : 0 < u.2 := by
  rcases mem_places.1 h with rfl | rfl | ⟨h1, rfl⟩ | ⟨h1, rfl⟩ | ⟨h1, rfl⟩ | ⟨h1, rfl⟩
  · decide
  · decide
  all_goals exact place_den _ _ _ h1

/-- The corners, by what they differ in. -/
theorem corners_left {px py qx qy lx ly hx hy c0 f1 f2 : Int} (h0 : c0 = crossI px py qx qy lx ly) (h1 : f1 = (qx - px) * (hy - ly)) (h2 : f2 = (qy - py) * (hx - lx)) (h : leftB px py qx qy ⟨lx, ly, hx, hy⟩ = true) : 0 < c0 ∨ 0 < c0 - f2 ∨ 0 < c0 + f1 - f2 ∨ 0 < c0 + f1 := by
  simp only [leftB, Bool.or_eq_true, decide_eq_true_eq] at h
  have e1 : crossI px py qx qy hx ly = c0 - f2 := by rw [h0, h2]; unfold crossI; grind
  have e2 : crossI px py qx qy hx hy = c0 + f1 - f2 := by rw [h0, h1, h2]; unfold crossI; grind
  have e3 : crossI px py qx qy lx hy = c0 + f1 := by rw [h0, h1]; unfold crossI; grind
  omega
theorem corners_right {px py qx qy lx ly hx hy c0 f1 f2 : Int} (h0 : c0 = crossI px py qx qy lx ly) (h1 : f1 = (qx - px) * (hy - ly)) (h2 : f2 = (qy - py) * (hx - lx)) (h : rightSB px py qx qy ⟨lx, ly, hx, hy⟩ = true) : c0 < 0 ∨ c0 - f2 < 0 ∨ c0 + f1 - f2 < 0 ∨ c0 + f1 < 0 := by
  simp only [rightSB, Bool.or_eq_true, decide_eq_true_eq] at h
  have e1 : crossI px py qx qy hx ly = c0 - f2 := by rw [h0, h2]; unfold crossI; grind
  have e2 : crossI px py qx qy hx hy = c0 + f1 - f2 := by rw [h0, h1, h2]; unfold crossI; grind
  have e3 : crossI px py qx qy lx hy = c0 + f1 := by rw [h0, h1]; unfold crossI; grind
  omega
theorem low_up_xy {px py qx qy lx ly hx hy : Int} (wx : lx < hx) (wy : ly < hy) (hl : leftB px py qx qy ⟨lx, ly, hx, hy⟩ = true) (hr : rightSB px py qx qy ⟨lx, ly, hx, hy⟩ = true) (nx : px ≠ qx) (ny : py ≠ qy) :
    (lowA px qx lx hx).1 * (upA py qy ly hy).2 < (upA py qy ly hy).1 * (lowA px qx lx hx).2 ∧ (lowA py qy ly hy).1 * (upA px qx lx hx).2 < (upA px qx lx hx).1 * (lowA py qy ly hy).2 := by
  obtain ⟨c0, h0⟩ : ∃ c, c = crossI px py qx qy lx ly := ⟨_, rfl⟩
  obtain ⟨f1, h1⟩ : ∃ c, c = (qx - px) * (hy - ly) := ⟨_, rfl⟩
  obtain ⟨f2, h2⟩ : ∃ c, c = (qy - py) * (hx - lx) := ⟨_, rfl⟩
  have P := corners_left h0 h1 h2 hl
  have Q := corners_right h0 h1 h2 hr
  have g0 : c0 = (qx - px) * (ly - py) - (qy - py) * (lx - px) := h0
  clear h0 hl hr
  unfold lowA upA
  by_cases hx0 : px < qx
  · have s1 : 0 ≤ f1 := by rw [h1]; exact Int.mul_nonneg (by omega) (by omega)
    rw [if_pos hx0, if_pos hx0]
    by_cases hy0 : py < qy
    · have s2 : 0 ≤ f2 := by rw [h2]; exact Int.mul_nonneg (by omega) (by omega)
      rw [if_pos hy0, if_pos hy0]
      simp only
      have e1 : (hy - py) * (qx - px) - (lx - px) * (qy - py) = c0 + f1 := by rw [g0, h1]; grind
      have e2 : (hx - px) * (qy - py) - (ly - py) * (qx - px) = -(c0 - f2) := by rw [g0, h2]; grind
      omega
    · have s2 : f2 ≤ 0 := by rw [h2]; exact Int.mul_nonpos_of_nonpos_of_nonneg (by omega) (by omega)
      rw [if_neg hy0, if_neg hy0]
      simp only
      have e1 : (py - ly) * (qx - px) - (lx - px) * (py - qy) = -c0 := by rw [g0]; grind
      have e2 : (hx - px) * (py - qy) - (py - hy) * (qx - px) = c0 + f1 - f2 := by rw [g0, h1, h2]; grind
      omega
  · have s1 : f1 ≤ 0 := by rw [h1]; exact Int.mul_nonpos_of_nonpos_of_nonneg (by omega) (by omega)
    rw [if_neg hx0, if_neg hx0]
    by_cases hy0 : py < qy
    · have s2 : 0 ≤ f2 := by rw [h2]; exact Int.mul_nonneg (by omega) (by omega)
      rw [if_pos hy0, if_pos hy0]
      simp only
      have e1 : (hy - py) * (px - qx) - (px - hx) * (qy - py) = -(c0 + f1 - f2) := by rw [g0, h1, h2]; grind
      have e2 : (px - lx) * (qy - py) - (ly - py) * (px - qx) = c0 := by rw [g0]; grind
      omega
    · have s2 : f2 ≤ 0 := by rw [h2]; exact Int.mul_nonpos_of_nonpos_of_nonneg (by omega) (by omega)
      rw [if_neg hy0, if_neg hy0]
      simp only
      have e1 : (py - ly) * (px - qx) - (px - hx) * (py - qy) = c0 - f2 := by rw [g0, h2]; grind
      have e2 : (px - lx) * (py - qy) - (py - hy) * (px - qx) = -(c0 + f1) := by rw [g0, h1]; grind
      omega
/-- One number: not beyond. -/
theorem axis_facts {p q l h : Int} (w : l < h) (n1 : ¬ max p q ≤ l) (n2 : ¬ h ≤ min p q) (hne : p ≠ q) :
    0 < (lowA p q l h).2 ∧ (upA p q l h).2 = (lowA p q l h).2 ∧ (lowA p q l h).1 < (upA p q l h).1 ∧ (lowA p q l h).1 < (lowA p q l h).2 ∧ 0 < (upA p q l h).1 := by
  unfold lowA upA
  by_cases hlt : p < q
  · rw [if_pos hlt, if_pos hlt]
    exact ⟨by show 0 < q - p; omega, rfl, by show l - p < h - p; omega, by show l - p < q - p; omega, by show 0 < h - p; omega⟩
  · rw [if_neg hlt, if_neg hlt]
    exact ⟨by show 0 < p - q; omega, rfl, by show p - h < p - l; omega, by show p - h < p - q; omega, by show 0 < p - l; omega⟩
theorem low_lt_up {px py qx qy : Int} {b : BoxI} (wx : b.lx < b.hx) (wy : b.ly < b.hy) (he : entersB px py qx qy b = true) {u v : Int × Int} (hu : u ∈ lowers px py qx qy b) (hv : v ∈ uppers px py qx qy b) : u.1 * v.2 < v.1 * u.2 := by
  obtain ⟨lx, ly, hx, hy⟩ := b
  simp only [entersB, Bool.and_eq_true, Bool.not_eq_true', beyondB, Bool.or_eq_false_iff, decide_eq_false_iff_not] at he
  obtain ⟨⟨⟨⟨⟨n1, n2⟩, n3⟩, n4⟩, hl⟩, hr⟩ := he
  simp only at wx wy n1 n2 n3 n4
  rcases mem_lowers.1 hu with rfl | ⟨nx, rfl⟩ | ⟨ny, rfl⟩
  · rcases mem_uppers.1 hv with rfl | ⟨mx, rfl⟩ | ⟨my, rfl⟩
    · decide
    · have := (axis_facts wx n1 n2 mx).2.2.2.2; simp only; omega
    · have := (axis_facts wy n3 n4 my).2.2.2.2; simp only; omega
  · obtain ⟨a1, a2, a3, a4, a5⟩ := axis_facts wx n1 n2 nx
    rcases mem_uppers.1 hv with rfl | ⟨mx, rfl⟩ | ⟨my, rfl⟩
    · simp only; omega
    · simp only [a2]
      exact Int.mul_lt_mul_of_pos_right a3 a1
    · exact (low_up_xy wx wy hl hr nx my).1
  · obtain ⟨a1, a2, a3, a4, a5⟩ := axis_facts wy n3 n4 ny
    rcases mem_uppers.1 hv with rfl | ⟨mx, rfl⟩ | ⟨my, rfl⟩
    · simp only; omega
    · exact (low_up_xy wx wy hl hr mx ny).2
    · simp only [a2]
      exact Int.mul_lt_mul_of_pos_right a3 a1
/-- Strictly between the bounds, one number. -/
theorem strict_axis {p q l h : Int} {u v : Int × Int} (hu : 0 < u.2) (hv : 0 < v.2) (n1 : ¬ max p q ≤ l) (n2 : ¬ h ≤ min p q)
    (h1 : p ≠ q → (lowA p q l h).1 * u.2 ≤ u.1 * (lowA p q l h).2 ∧ (lowA p q l h).1 * v.2 < v.1 * (lowA p q l h).2) (h2 : p ≠ q → v.1 * (upA p q l h).2 ≤ (upA p q l h).1 * v.2 ∧ u.1 * (upA p q l h).2 < (upA p q l h).1 * u.2) :
    strictB p q u.1 u.2 v.1 v.2 l h = true := by
  rw [strictB_iff]
  have hE : 0 < u.2 * v.2 := Int.mul_pos hu hv
  by_cases hne : p = q
  · subst hne
    have e1 := Int.mul_pos (show 0 < p - l by omega) hE
    have e2 := Int.mul_pos (show 0 < h - p by omega) hE
    have e3 : 2 * (p - l) * (u.2 * v.2) = 2 * ((p - l) * (u.2 * v.2)) := Int.mul_assoc _ _ _
    have e4 : 2 * (h - p) * (u.2 * v.2) = 2 * ((h - p) * (u.2 * v.2)) := Int.mul_assoc _ _ _
    rw [Int.sub_self, Int.zero_mul]
    omega
  · obtain ⟨a1, a2⟩ := h1 hne
    obtain ⟨b1, b2⟩ := h2 hne
    have m1 := mid_over hu hv a1 a2
    have m2 := mid_under hu hv b1 b2
    generalize u.1 * v.2 + v.1 * u.2 = N at m1 m2 ⊢
    generalize u.2 * v.2 = E at m1 m2 ⊢
    unfold lowA at m1
    unfold upA at m2
    by_cases hlt : p < q
    · rw [if_pos hlt] at m1 m2
      simp only at m1 m2
      have e1 : 2 * (p - l) * E = -(2 * (l - p) * E) := by grind
      have e2 : (p - q) * N = -((q - p) * N) := by grind
      omega
    · rw [if_neg hlt] at m1 m2
      simp only at m1 m2
      have e1 : 2 * (h - p) * E = -(2 * (p - h) * E) := by grind
      have e2 : (q - p) * N = -((p - q) * N) := by grind
      omega
theorem inside_of_enters {px py qx qy : Int} {b : BoxI} (wx : b.lx < b.hx) (wy : b.ly < b.hy) (he : entersB px py qx qy b = true) : insideB px py qx qy b = true := by
  obtain ⟨u, hu, hmax⟩ := max_frac (lowers px py qx qy b) (by simp [lowers]) (fun u hu => places_den (lowers_places hu))
  obtain ⟨v, hv, hmin⟩ := min_frac (uppers px py qx qy b) (by simp [uppers]) (fun u hu => places_den (uppers_places hu))
  have hu2 := places_den (lowers_places hu)
  have hv2 := places_den (uppers_places hv)
  have he' := he
  simp only [entersB, Bool.and_eq_true, Bool.not_eq_true', beyondB, Bool.or_eq_false_iff, decide_eq_false_iff_not] at he'
  obtain ⟨⟨⟨⟨⟨n1, n2⟩, n3⟩, n4⟩, -⟩, -⟩ := he'
  refine List.any_eq_true.2 ⟨u, lowers_places hu, List.any_eq_true.2 ⟨v, uppers_places hv, ?_⟩⟩
  have z := hmax (0, 1) (mem_lowers.2 (.inl rfl))
  have o := hmin (1, 1) (mem_uppers.2 (.inl rfl))
  simp only at z o
  have lt := low_lt_up wx wy he hu hv
  unfold pairB
  rw [strict_axis hu2 hv2 n1 n2 (fun h => ⟨hmax _ (mem_lowers.2 (.inr (.inl ⟨h, rfl⟩))), low_lt_up wx wy he (mem_lowers.2 (.inr (.inl ⟨h, rfl⟩))) hv⟩) (fun h => ⟨hmin _ (mem_uppers.2 (.inr (.inl ⟨h, rfl⟩))), low_lt_up wx wy he hu (mem_uppers.2 (.inr (.inl ⟨h, rfl⟩)))⟩),
    strict_axis hu2 hv2 n3 n4 (fun h => ⟨hmax _ (mem_lowers.2 (.inr (.inr ⟨h, rfl⟩))), low_lt_up wx wy he (mem_lowers.2 (.inr (.inr ⟨h, rfl⟩))) hv⟩) (fun h => ⟨hmin _ (mem_uppers.2 (.inr (.inr ⟨h, rfl⟩))), low_lt_up wx wy he hu (mem_uppers.2 (.inr (.inr ⟨h, rfl⟩)))⟩)]
  simp only [Bool.and_true, Bool.and_eq_true, decide_eq_true_eq]
  omega
theorem enters_of_inside {px py qx qy : Int} {b : BoxI} (hne : ¬ (px = qx ∧ py = qy)) (h : insideB px py qx qy b = true) : b.lx < b.hx ∧ b.ly < b.hy ∧ entersB px py qx qy b = true := by
  obtain ⟨u, hu, h⟩ := List.any_eq_true.1 h
  obtain ⟨v, hv, h⟩ := List.any_eq_true.1 h
  have hu2 := places_den hu
  have hv2 := places_den hv
  simp only [pairB, Bool.and_eq_true, decide_eq_true_eq, strictB_iff] at h
  obtain ⟨⟨⟨⟨z, o⟩, lt⟩, x1, x2⟩, y1, y2⟩ := h
  have hE : 0 < u.2 * v.2 := Int.mul_pos hu2 hv2
  have a1 := Int.mul_nonneg z (show 0 ≤ v.2 by omega)
  have a2 : v.1 * u.2 ≤ v.2 * u.2 := Int.mul_le_mul_of_nonneg_right o (by omega)
  have a3 : v.2 * u.2 = u.2 * v.2 := Int.mul_comm _ _
  exact enters_of_mid hE (by omega) (by omega) hne x1 x2 y1 y2
/-- The document's answer is the corners'. -/
theorem inside_eq {px py qx qy : Int} {b : BoxI} (hne : ¬ (px = qx ∧ py = qy)) : insideB px py qx qy b = (decide (b.lx < b.hx) && decide (b.ly < b.hy) && entersB px py qx qy b) := by
  rw [Bool.eq_iff_iff]
  simp only [Bool.and_eq_true, decide_eq_true_eq]
  constructor
  · intro h
    obtain ⟨h1, h2, h3⟩ := enters_of_inside hne h
    exact ⟨⟨h1, h2⟩, h3⟩
  · rintro ⟨⟨h1, h2⟩, h3⟩
    exact inside_of_enters h1 h2 h3
end Go.Proofs.Ytlkihbehiojimaa
