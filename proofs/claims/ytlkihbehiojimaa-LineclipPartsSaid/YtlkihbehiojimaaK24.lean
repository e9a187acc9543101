/-
  Layer 22: has an edge a point strictly within? the document's answer, and the corners' one (pure).
-/
import Derived.Test.YtlkihbehiojimaaK22
namespace Go.Proofs.Ytlkihbehiojimaa
open Go.RowKit Go.Tab

def placeB (p q c : Int) : Int × Int := ((c - p) * signI (q - p), (q - p) * signI (q - p))
def places (px py qx qy : Int) (b : BoxI) : List (Int × Int) :=
  [(0, 1), (1, 1)] ++ (if px = qx then [] else [placeB px qx b.lx]) ++ (if py = qy then [] else [placeB py qy b.ly]) ++ (if px = qx then [] else [placeB px qx b.hx]) ++ (if py = qy then [] else [placeB py qy b.hy])
def pairB (px py qx qy : Int) (b : BoxI) (u v : Int × Int) : Bool :=
  decide (0 ≤ u.1) && decide (v.1 ≤ v.2) && decide (u.1 * v.2 < v.1 * u.2) && strictB px qx u.1 u.2 v.1 v.2 b.lx b.hx && strictB py qy u.1 u.2 v.1 v.2 b.ly b.hy
def insideB (px py qx qy : Int) (b : BoxI) : Bool := (places px py qx qy b).any fun u => (places px py qx qy b).any fun v => pairB px py qx qy b u v

theorem strictB_iff {p q a b c d low high : Int} : strictB p q a b c d low high = true ↔ 0 < 2 * (p - low) * (b * d) + (q - p) * (a * d + c * b) ∧ 0 < 2 * (high - p) * (b * d) + (p - q) * (a * d + c * b) := by
  simp [strictB, aboveB]

/-! ### From a middle to the corners -/
theorem over_one {p q l E N : Int} (hN0 : 0 ≤ N) (hN1 : N ≤ 2 * E) (h : 0 < 2 * (p - l) * E + (q - p) * N) : l < p ∨ l < q := by
  by_cases h1 : l < p
  · exact .inl h1
  by_cases h2 : l < q
  · exact .inr h2
  exfalso
  have a1 : (p - l) * (2 * E - N) ≤ 0 := Int.mul_nonpos_of_nonpos_of_nonneg (by omega) (by omega)
  have a2 : (q - l) * N ≤ 0 := Int.mul_nonpos_of_nonpos_of_nonneg (by omega) hN0
  have e : 2 * (p - l) * E + (q - p) * N = (p - l) * (2 * E - N) + (q - l) * N := by grind
  omega
theorem under_one {p q h E N : Int} (hN0 : 0 ≤ N) (hN1 : N ≤ 2 * E) (h0 : 0 < 2 * (h - p) * E + (p - q) * N) : p < h ∨ q < h := by
  by_cases h1 : p < h
  · exact .inl h1
  by_cases h2 : q < h
  · exact .inr h2
  exfalso
  have a1 : (h - p) * (2 * E - N) ≤ 0 := Int.mul_nonpos_of_nonpos_of_nonneg (by omega) (by omega)
  have a2 : (h - q) * N ≤ 0 := Int.mul_nonpos_of_nonpos_of_nonneg (by omega) hN0
  have e : 2 * (h - p) * E + (p - q) * N = (h - p) * (2 * E - N) + (h - q) * N := by grind
  omega
theorem wide_one {p q l h E N : Int} (hE : 0 < E) (h1 : 0 < 2 * (p - l) * E + (q - p) * N) (h2 : 0 < 2 * (h - p) * E + (p - q) * N) : l < h := by
  by_cases hw : l < h
  · exact hw
  exfalso
  have a1 : (h - l) * E ≤ 0 := Int.mul_nonpos_of_nonpos_of_nonneg (by omega) (by omega)
  have e : 2 * (p - l) * E + (q - p) * N + (2 * (h - p) * E + (p - q) * N) = 2 * ((h - l) * E) := by grind
  omega
/-- A sum of two products, of which one isn't 0. -/
theorem two_pos {dx dy V U : Int} (hne : dx ≠ 0 ∨ dy ≠ 0) (h1 : 0 ≤ dx * V) (h1s : dx ≠ 0 → dx * V ≠ 0) (h2 : dy * U ≤ 0) (h2s : dy ≠ 0 → dy * U ≠ 0) : 0 < dx * V - dy * U := by
  rcases hne with h | h
  · have := h1s h; omega
  · have := h2s h; omega
theorem pos_of_twice {E k : Int} (hE : 0 < E) (h : 0 < 2 * E * k) : 0 < k := by
  by_cases hk : 0 < k
  · exact hk
  exfalso
  have : 2 * E * k ≤ 0 := Int.mul_nonpos_of_nonneg_of_nonpos (by omega) (by omega)
  omega
theorem corner_left {px py qx qy lx ly hx hy E N : Int} (hE : 0 < E) (hne : ¬ (px = qx ∧ py = qy))
    (x1 : 0 < 2 * (px - lx) * E + (qx - px) * N) (x2 : 0 < 2 * (hx - px) * E + (px - qx) * N) (y1 : 0 < 2 * (py - ly) * E + (qy - py) * N) (y2 : 0 < 2 * (hy - py) * E + (py - qy) * N) :
    leftB px py qx qy ⟨lx, ly, hx, hy⟩ = true := by
  have hn : qx - px ≠ 0 ∨ qy - py ≠ 0 := by omega
  simp only [leftB, Bool.or_eq_true, decide_eq_true_eq]
  have key : ∀ cx cy V U : Int, V = 2 * (cy - py) * E + (py - qy) * N → U = 2 * (cx - px) * E + (px - qx) * N → 0 < (qx - px) * V - (qy - py) * U → 0 < crossI px py qx qy cx cy := fun cx cy V U hV hU h => by
    refine pos_of_twice hE ?_
    have : 2 * E * crossI px py qx qy cx cy = (qx - px) * V - (qy - py) * U := by rw [hV, hU]; unfold crossI; grind
    omega
  by_cases hdx : 0 ≤ qx - px
  · by_cases hdy : 0 ≤ qy - py
    · right
      refine key lx hy _ _ rfl rfl (two_pos hn (Int.mul_nonneg hdx (by omega)) (fun h => Int.mul_ne_zero h (by omega)) (Int.mul_nonpos_of_nonneg_of_nonpos hdy ?_) (fun h => Int.mul_ne_zero h ?_))
      · have e : 2 * (lx - px) * E + (px - qx) * N = -(2 * (px - lx) * E + (qx - px) * N) := by grind
        omega
      · have e : 2 * (lx - px) * E + (px - qx) * N = -(2 * (px - lx) * E + (qx - px) * N) := by grind
        omega
    · left; right
      refine key hx hy _ _ rfl rfl (two_pos hn (Int.mul_nonneg hdx (by omega)) (fun h => Int.mul_ne_zero h (by omega)) (Int.mul_nonpos_of_nonpos_of_nonneg (by omega) (by omega)) (fun h => Int.mul_ne_zero h (by omega)))
  · have ey : 2 * (ly - py) * E + (py - qy) * N = -(2 * (py - ly) * E + (qy - py) * N) := by grind
    by_cases hdy : 0 ≤ qy - py
    · left; left; left
      have ex : 2 * (lx - px) * E + (px - qx) * N = -(2 * (px - lx) * E + (qx - px) * N) := by grind
      refine key lx ly _ _ rfl rfl (two_pos hn (Int.mul_nonneg_of_nonpos_of_nonpos (by omega) (by omega)) (fun h => Int.mul_ne_zero h (by omega)) (Int.mul_nonpos_of_nonneg_of_nonpos hdy (by omega)) (fun h => Int.mul_ne_zero h (by omega)))
    · left; left; right
      refine key hx ly _ _ rfl rfl (two_pos hn (Int.mul_nonneg_of_nonpos_of_nonpos (by omega) (by omega)) (fun h => Int.mul_ne_zero h (by omega)) (Int.mul_nonpos_of_nonpos_of_nonneg (by omega) (by omega)) (fun h => Int.mul_ne_zero h (by omega)))
theorem cross_turn (px py qx qy cx cy : Int) : crossI (-px) py (-qx) qy (-cx) cy = -crossI px py qx qy cx cy := by unfold crossI; grind
/-- The other side, by the mirror. -/
theorem corner_right {px py qx qy lx ly hx hy E N : Int} (hE : 0 < E) (hne : ¬ (px = qx ∧ py = qy))
    (x1 : 0 < 2 * (px - lx) * E + (qx - px) * N) (x2 : 0 < 2 * (hx - px) * E + (px - qx) * N) (y1 : 0 < 2 * (py - ly) * E + (qy - py) * N) (y2 : 0 < 2 * (hy - py) * E + (py - qy) * N) :
    rightSB px py qx qy ⟨lx, ly, hx, hy⟩ = true := by
  have h := corner_left (px := -px) (qx := -qx) (lx := -hx) (hx := -lx) (py := py) (qy := qy) (ly := ly) (hy := hy) (E := E) (N := N) hE (by omega)
    (by have e : 2 * (-px - -hx) * E + (-qx - -px) * N = 2 * (hx - px) * E + (px - qx) * N := by grind
        omega)
    (by have e : 2 * (-lx - -px) * E + (-px - -qx) * N = 2 * (px - lx) * E + (qx - px) * N := by grind
        omega) y1 y2
  simp only [leftB, Bool.or_eq_true, decide_eq_true_eq, cross_turn] at h
  simp only [rightSB, Bool.or_eq_true, decide_eq_true_eq]
  omega
theorem enters_of_mid {px py qx qy lx ly hx hy E N : Int} (hE : 0 < E) (hN0 : 0 ≤ N) (hN1 : N ≤ 2 * E) (hne : ¬ (px = qx ∧ py = qy))
    (x1 : 0 < 2 * (px - lx) * E + (qx - px) * N) (x2 : 0 < 2 * (hx - px) * E + (px - qx) * N) (y1 : 0 < 2 * (py - ly) * E + (qy - py) * N) (y2 : 0 < 2 * (hy - py) * E + (py - qy) * N) :
    lx < hx ∧ ly < hy ∧ entersB px py qx qy ⟨lx, ly, hx, hy⟩ = true := by
  refine ⟨wide_one hE x1 x2, wide_one hE y1 y2, ?_⟩
  have a1 := over_one hN0 hN1 x1
  have a2 := under_one hN0 hN1 x2
  have a3 := over_one hN0 hN1 y1
  have a4 := under_one hN0 hN1 y2
  unfold entersB
  rw [corner_left hE hne x1 x2 y1 y2, corner_right hE hne x1 x2 y1 y2, Bool.and_true, Bool.and_true]
  simp only [beyondB, Bool.not_eq_true', Bool.or_eq_false_iff, decide_eq_false_iff_not]
  omega

/-! ### From the corners to a pair of places -/
theorem frac_trans {a b c d e f : Int} (hb : 0 < b) (hd : 0 < d) (hf : 0 < f) (h1 : a * d ≤ c * b) (h2 : c * f ≤ e * d) : a * f ≤ e * b := by
  have e1 : a * d * f ≤ c * b * f := Int.mul_le_mul_of_nonneg_right h1 (by omega)
  have e2 : c * f * b ≤ e * d * b := Int.mul_le_mul_of_nonneg_right h2 (by omega)
  refine Int.le_of_mul_le_mul_right (a := d) ?_ hd
  have e3 : a * f * d = a * d * f := by grind
  have e4 : c * b * f = c * f * b := by grind
  have e5 : e * b * d = e * d * b := by grind
  omega
theorem max_frac : ∀ (L : List (Int × Int)), L ≠ [] → (∀ u ∈ L, 0 < u.2) → ∃ m ∈ L, ∀ u ∈ L, u.1 * m.2 ≤ m.1 * u.2
  | [], h, _ => absurd rfl h
  | [x], _, _ => ⟨x, by simp, fun u hu => by rw [List.mem_singleton] at hu; subst hu; exact Int.le_refl _⟩
  | x :: y :: L, _, hp => by
    obtain ⟨m, hm, h⟩ := max_frac (y :: L) (by simp) (fun u hu => hp u (List.mem_cons_of_mem _ hu))
    by_cases hx : x.1 * m.2 ≤ m.1 * x.2
    · exact ⟨m, List.mem_cons_of_mem _ hm, fun u hu => by
        rcases List.mem_cons.1 hu with rfl | hu
        · exact hx
        · exact h u hu⟩
    · refine ⟨x, by simp, fun u hu => ?_⟩
      rcases List.mem_cons.1 hu with rfl | hu
      · exact Int.le_refl _
      · exact frac_trans (hp u (List.mem_cons_of_mem _ hu)) (hp m (List.mem_cons_of_mem _ hm)) (hp x (by simp)) (h u hu) (by omega)
theorem min_frac : ∀ (L : List (Int × Int)), L ≠ [] → (∀ u ∈ L, 0 < u.2) → ∃ m ∈ L, ∀ u ∈ L, m.1 * u.2 ≤ u.1 * m.2
  | [], h, _ => absurd rfl h
  | [x], _, _ => ⟨x, by simp, fun u hu => by rw [List.mem_singleton] at hu; subst hu; exact Int.le_refl _⟩
  | x :: y :: L, _, hp => by
    obtain ⟨m, hm, h⟩ := min_frac (y :: L) (by simp) (fun u hu => hp u (List.mem_cons_of_mem _ hu))
    by_cases hx : m.1 * x.2 ≤ x.1 * m.2
    · exact ⟨m, List.mem_cons_of_mem _ hm, fun u hu => by
        rcases List.mem_cons.1 hu with rfl | hu
        · exact hx
        · exact h u hu⟩
    · refine ⟨x, by simp, fun u hu => ?_⟩
      rcases List.mem_cons.1 hu with rfl | hu
      · exact Int.le_refl _
      · exact frac_trans (hp x (by simp)) (hp m (List.mem_cons_of_mem _ hm)) (hp u (List.mem_cons_of_mem _ hu)) (by omega) (h u hu)
/-- The middle of two places lies above what the lower one does. -/
theorem mid_over {a b c d n m : Int} (hb : 0 < b) (hd : 0 < d) (h1 : n * b ≤ a * m) (h2 : n * d < c * m) : 2 * n * (b * d) < m * (a * d + c * b) := by
  have e1 : n * b * d ≤ a * m * d := Int.mul_le_mul_of_nonneg_right h1 (by omega)
  have e2 : n * d * b < c * m * b := Int.mul_lt_mul_of_pos_right h2 hb
  have e3 : 2 * n * (b * d) = n * b * d + n * d * b := by grind
  have e4 : m * (a * d + c * b) = a * m * d + c * m * b := by grind
  omega
theorem mid_under {a b c d n m : Int} (hb : 0 < b) (hd : 0 < d) (h1 : c * m ≤ n * d) (h2 : a * m < n * b) : m * (a * d + c * b) < 2 * n * (b * d) := by
  have e1 : c * m * b ≤ n * d * b := Int.mul_le_mul_of_nonneg_right h1 (by omega)
  have e2 : a * m * d < n * b * d := Int.mul_lt_mul_of_pos_right h2 hd
  have e3 : 2 * n * (b * d) = n * b * d + n * d * b := by grind
  have e4 : m * (a * d + c * b) = a * m * d + c * m * b := by grind
  omega
end Go.Proofs.Ytlkihbehiojimaa
