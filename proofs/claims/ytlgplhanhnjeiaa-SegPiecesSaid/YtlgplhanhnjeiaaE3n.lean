/-
  Layer 1: who lies on a segment, and within a triangle: the plain arithmetic.
-/
import Derived.Test.YtlgplhanhnjeiaaE2n
namespace Go.Proofs.Ytlgplhanhnjeiaa

def onB (ax ay bx b_y px py : Int) : Bool :=
  if ax = bx ∧ ay = b_y then decide (px = ax ∧ py = ay) else decide (crossI ax ay bx b_y px py = 0) && betwB ax bx px && betwB ay b_y py
def ronB (ax ay bx b_y px py : Int) : Bool :=
  if ax = bx ∧ ay = b_y then decide (px = ax ∧ py = ay)
  else decide (crossI ax ay bx b_y px py = 0) && decide (0 ≤ (px - ax) * (bx - ax) + (py - ay) * (b_y - ay)) &&
    decide ((px - ax) * (bx - ax) + (py - ay) * (b_y - ay) ≤ (bx - ax) * (bx - ax) + (b_y - ay) * (b_y - ay))

theorem sq_nonneg (a : Int) : 0 ≤ a * a := by
  rcases Int.le_total 0 a with h | h
  · exact Int.mul_nonneg h h
  · exact Int.mul_nonneg_of_nonpos_of_nonpos h h
theorem sq_pos {a : Int} (h : a ≠ 0) : 0 < a * a := by
  rcases Int.lt_or_gt_of_ne h with h | h
  · exact Int.mul_pos_of_neg_of_neg h h
  · exact Int.mul_pos h h
/-- k * x = d * y, 0 < k, 0 ≤ d ≤ k: x lies between 0 and y. -/
theorem part_of {k d x y : Int} (hk : 0 < k) (h0 : 0 ≤ d) (h1 : d ≤ k) (h : k * x = d * y) : (0 ≤ x ∧ x ≤ y) ∨ (y ≤ x ∧ x ≤ 0) := by
  rcases Int.le_total 0 y with hy | hy
  · left
    have a1 : 0 ≤ d * y := Int.mul_nonneg h0 hy
    have a2 : d * y ≤ k * y := Int.mul_le_mul_of_nonneg_right h1 hy
    exact ⟨Int.le_of_mul_le_mul_left (by rw [Int.mul_zero]; omega) hk, Int.le_of_mul_le_mul_left (by omega) hk⟩
  · right
    have a1 : d * y ≤ 0 := Int.mul_nonpos_of_nonneg_of_nonpos h0 hy
    have a2 : k * y ≤ d * y := Int.mul_le_mul_of_nonpos_right h1 hy
    exact ⟨Int.le_of_mul_le_mul_left (by omega) hk, Int.le_of_mul_le_mul_left (by rw [Int.mul_zero]; omega) hk⟩
theorem bet_mul {x y : Int} (h : (0 ≤ x ∧ x ≤ y) ∨ (y ≤ x ∧ x ≤ 0)) : 0 ≤ x * y ∧ x * y ≤ y * y := by
  rcases h with ⟨h1, h2⟩ | ⟨h1, h2⟩
  · exact ⟨Int.mul_nonneg h1 (by omega), Int.mul_le_mul_of_nonneg_right h2 (by omega)⟩
  · exact ⟨Int.mul_nonneg_of_nonpos_of_nonpos h2 (by omega), Int.mul_le_mul_of_nonpos_right h1 (by omega)⟩

theorem on_core {u v s t : Int} (hne : u ≠ 0 ∨ v ≠ 0) (hc : u * t = v * s) :
    (((0 ≤ s ∧ s ≤ u) ∨ (u ≤ s ∧ s ≤ 0)) ∧ ((0 ≤ t ∧ t ≤ v) ∨ (v ≤ t ∧ t ≤ 0))) ↔ (0 ≤ s * u + t * v ∧ s * u + t * v ≤ u * u + v * v) := by
  constructor
  · rintro ⟨h1, h2⟩
    have a1 := bet_mul h1
    have a2 := bet_mul h2
    omega
  · rintro ⟨h1, h2⟩
    have hk : 0 < u * u + v * v := by
      rcases hne with h | h
      · have := sq_pos h; have := sq_nonneg v; omega
      · have := sq_pos h; have := sq_nonneg u; omega
    have e1 : (u * u + v * v) * s = (s * u + t * v) * u := by grind
    have e2 : (u * u + v * v) * t = (s * u + t * v) * v := by grind
    exact ⟨part_of hk h1 h2 e1, part_of hk h1 h2 e2⟩

theorem betwB_iff {a b n : Int} : betwB a b n = true ↔ ((0 ≤ n - a ∧ n - a ≤ b - a) ∨ (b - a ≤ n - a ∧ n - a ≤ 0)) := by
  unfold betwB; rw [decide_eq_true_iff]; omega

theorem on_eq (ax ay bx b_y px py : Int) : onB ax ay bx b_y px py = ronB ax ay bx b_y px py := by
  unfold onB ronB
  split
  · rfl
  · rename_i hne
    by_cases hc : crossI ax ay bx b_y px py = 0
    · have hk := @on_core (bx - ax) (b_y - ay) (px - ax) (py - ay) (by omega) (by unfold crossI at hc; omega)
      rw [Bool.eq_iff_iff]
      simp only [hc, decide_true, Bool.true_and, Bool.and_eq_true, decide_eq_true_eq, betwB_iff]
      exact hk
    · simp [hc]

theorem on_comm (ax ay bx b_y px py : Int) : onB ax ay bx b_y px py = onB bx b_y ax ay px py := by
  unfold onB
  have h1 : crossI ax ay bx b_y px py = - crossI bx b_y ax ay px py := by unfold crossI; grind
  have h2 : betwB ax bx px = betwB bx ax px := by unfold betwB; rw [Bool.eq_iff_iff]; simp only [decide_eq_true_eq]; omega
  have h3 : betwB ay b_y py = betwB b_y ay py := by unfold betwB; rw [Bool.eq_iff_iff]; simp only [decide_eq_true_eq]; omega
  by_cases he : ax = bx ∧ ay = b_y
  · obtain ⟨rfl, rfl⟩ := he; rfl
  · rw [if_neg he, if_neg (by omega), h2, h3, Bool.eq_iff_iff]
    simp only [Bool.and_eq_true, decide_eq_true_eq]
    constructor
    · rintro ⟨⟨a, b⟩, c⟩; exact ⟨⟨by omega, b⟩, c⟩
    · rintro ⟨⟨a, b⟩, c⟩; exact ⟨⟨by omega, b⟩, c⟩

/-- Within a triangle, as the program has it (of points that may be). -/
def inB (ax ay bx b_y cx cy px py : Int) : Bool :=
  if crossI ax ay bx b_y cx cy = 0 then onB ax ay bx b_y px py || onB bx b_y cx cy px py || onB cx cy ax ay px py
  else decide (0 ≤ signI (crossI ax ay bx b_y px py) * signI (crossI ax ay bx b_y cx cy)) && decide (0 ≤ signI (crossI bx b_y cx cy px py) * signI (crossI ax ay bx b_y cx cy)) && decide (0 ≤ signI (crossI cx cy ax ay px py) * signI (crossI ax ay bx b_y cx cy))
/-- As the document has it. -/
def rinB (ax ay bx b_y cx cy px py : Int) : Bool :=
  if (ronB ax ay bx b_y px py || ronB bx b_y cx cy px py || ronB cx cy ax ay px py) = true then true
  else decide (signI (crossI ax ay bx b_y px py) = signI (crossI bx b_y cx cy px py) ∧ signI (crossI bx b_y cx cy px py) = signI (crossI cx cy ax ay px py) ∧ signI (crossI ax ay bx b_y px py) ≠ 0)

theorem cross_sum (ax ay bx b_y cx cy px py : Int) : crossI ax ay bx b_y px py + crossI bx b_y cx cy px py + crossI cx cy ax ay px py = crossI ax ay bx b_y cx cy := by unfold crossI; grind
theorem cross_rot (ax ay bx b_y cx cy : Int) : crossI bx b_y cx cy ax ay = crossI ax ay bx b_y cx cy := by unfold crossI; grind
theorem cross_swap (ax ay bx b_y cx cy : Int) : crossI bx b_y ax ay cx cy = - crossI ax ay bx b_y cx cy := by unfold crossI; grind
theorem sign_mul (m n : Int) (hn : n ≠ 0) : (0 ≤ signI m * signI n) ↔ ((0 < n ∧ 0 ≤ m) ∨ (n < 0 ∧ m ≤ 0)) := by
  unfold signI
  rcases Int.lt_or_gt_of_ne hn with h | h
  · rw [if_neg (show ¬ 0 < n by omega), if_pos h]
    split
    · omega
    · split <;> omega
  · rw [if_pos (show 0 < n by omega)]
    split
    · omega
    · split <;> omega

/-- On a triangle's side's line, turned right by the two others: on the side. -/
theorem on_of {ax ay bx b_y cx cy px py : Int} (hD : crossI ax ay bx b_y cx cy ≠ 0) (h1 : crossI ax ay bx b_y px py = 0)
    (h2 : (0 < crossI ax ay bx b_y cx cy ∧ 0 ≤ crossI bx b_y cx cy px py ∧ 0 ≤ crossI cx cy ax ay px py) ∨ (crossI ax ay bx b_y cx cy < 0 ∧ crossI bx b_y cx cy px py ≤ 0 ∧ crossI cx cy ax ay px py ≤ 0)) :
    onB ax ay bx b_y px py = true := by
  have hne : ¬ (ax = bx ∧ ay = b_y) := by
    rintro ⟨rfl, rfl⟩
    apply hD; unfold crossI; grind
  have hs := cross_sum ax ay bx b_y cx cy px py
  have e1 : crossI ax ay bx b_y cx cy * (px - ax) = crossI cx cy ax ay px py * (bx - ax) := by unfold crossI at *; grind
  have e2 : crossI ax ay bx b_y cx cy * (py - ay) = crossI cx cy ax ay px py * (b_y - ay) := by unfold crossI at *; grind
  unfold onB
  rw [if_neg hne]
  simp only [Bool.and_eq_true, decide_eq_true_eq, betwB_iff]
  rcases h2 with ⟨a, b, c⟩ | ⟨a, b, c⟩
  · exact ⟨⟨h1, part_of a c (by omega) e1⟩, part_of a c (by omega) e2⟩
  · refine ⟨⟨h1, part_of (k := - crossI ax ay bx b_y cx cy) (d := - crossI cx cy ax ay px py) (by omega) (by omega) (by omega) ?_⟩, part_of (k := - crossI ax ay bx b_y cx cy) (d := - crossI cx cy ax ay px py) (by omega) (by omega) (by omega) ?_⟩
    · rw [Int.neg_mul, Int.neg_mul, e1]
    · rw [Int.neg_mul, Int.neg_mul, e2]

theorem coef {D c x y : Int} (hy : y ≠ 0) (hb : (0 ≤ x ∧ x ≤ y) ∨ (y ≤ x ∧ x ≤ 0)) (h : D * x = c * y) : (0 ≤ D → 0 ≤ c ∧ c ≤ D) ∧ (D ≤ 0 → D ≤ c ∧ c ≤ 0) := by
  rcases hb with ⟨h1, h2⟩ | ⟨h1, h2⟩
  · have hy' : 0 < y := by omega
    constructor
    · intro hD
      have a1 := Int.mul_nonneg hD h1
      have a2 := Int.mul_le_mul_of_nonneg_left h2 hD
      exact ⟨Int.le_of_mul_le_mul_right (by rw [Int.zero_mul]; omega) hy', Int.le_of_mul_le_mul_right (by omega) hy'⟩
    · intro hD
      have a1 := Int.mul_nonpos_of_nonpos_of_nonneg hD h1
      have a2 := Int.mul_le_mul_of_nonpos_left hD h2
      exact ⟨Int.le_of_mul_le_mul_right (by omega) hy', Int.le_of_mul_le_mul_right (by rw [Int.zero_mul]; omega) hy'⟩
  · have hy' : 0 < -y := by omega
    have e : D * (-x) = c * (-y) := by rw [Int.mul_neg, Int.mul_neg, h]
    have h3 : 0 ≤ -x := by omega
    have h4 : -x ≤ -y := by omega
    constructor
    · intro hD
      have a1 := Int.mul_nonneg hD h3
      have a2 := Int.mul_le_mul_of_nonneg_left h4 hD
      exact ⟨Int.le_of_mul_le_mul_right (by rw [Int.zero_mul]; omega) hy', Int.le_of_mul_le_mul_right (by omega) hy'⟩
    · intro hD
      have a1 := Int.mul_nonpos_of_nonpos_of_nonneg hD h3
      have a2 := Int.mul_le_mul_of_nonpos_left hD h4
      exact ⟨Int.le_of_mul_le_mul_right (by omega) hy', Int.le_of_mul_le_mul_right (by rw [Int.zero_mul]; omega) hy'⟩

/-- On a side: turned right by the two others. -/
theorem of_on {ax ay bx b_y cx cy px py : Int} (h : onB ax ay bx b_y px py = true) (hne : ¬ (ax = bx ∧ ay = b_y)) :
    crossI ax ay bx b_y px py = 0 ∧ ((0 ≤ crossI ax ay bx b_y cx cy → 0 ≤ crossI bx b_y cx cy px py ∧ 0 ≤ crossI cx cy ax ay px py) ∧ (crossI ax ay bx b_y cx cy ≤ 0 → crossI bx b_y cx cy px py ≤ 0 ∧ crossI cx cy ax ay px py ≤ 0)) := by
  unfold onB at h
  rw [if_neg hne] at h
  simp only [Bool.and_eq_true, decide_eq_true_eq, betwB_iff] at h
  obtain ⟨⟨h1, h2⟩, h3⟩ := h
  have hs := cross_sum ax ay bx b_y cx cy px py
  have e1 : crossI ax ay bx b_y cx cy * (px - ax) = crossI cx cy ax ay px py * (bx - ax) := by unfold crossI at *; grind
  have e2 : crossI ax ay bx b_y cx cy * (py - ay) = crossI cx cy ax ay px py * (b_y - ay) := by unfold crossI at *; grind
  refine ⟨h1, ?_⟩
  by_cases hu : bx - ax = 0
  · have k := coef (show b_y - ay ≠ 0 by omega) h3 e2
    exact ⟨fun hD => by have := k.1 hD; omega, fun hD => by have := k.2 hD; omega⟩
  · have k := coef hu h2 e1
    exact ⟨fun hD => by have := k.1 hD; omega, fun hD => by have := k.2 hD; omega⟩

theorem sign_zero {n : Int} : signI n = 0 ↔ n = 0 := by unfold signI; split <;> (try split) <;> omega
theorem sign_same {m n : Int} (hm : m ≠ 0) (hn : n ≠ 0) : signI m = signI n ↔ ((0 < m ∧ 0 < n) ∨ (m < 0 ∧ n < 0)) := by
  unfold signI; split <;> (try split) <;> (try split) <;> (try split) <;> omega

theorem in_eq (ax ay bx b_y cx cy px py : Int) : inB ax ay bx b_y cx cy px py = rinB ax ay bx b_y cx cy px py := by
  unfold inB rinB
  rw [← on_eq, ← on_eq, ← on_eq]
  have hs := cross_sum ax ay bx b_y cx cy px py
  have r1 := cross_rot ax ay bx b_y cx cy
  have r2 := cross_rot bx b_y cx cy ax ay
  by_cases hD : crossI ax ay bx b_y cx cy = 0
  · rw [if_pos hD]
    split
    · rename_i h; exact h
    · rename_i h
      rw [Bool.eq_iff_iff, decide_eq_true_iff]
      constructor
      · intro h'; exact absurd h' h
      · rintro ⟨h1, h2, h3⟩
        exfalso
        have n1 : crossI ax ay bx b_y px py ≠ 0 := fun e => h3 (sign_zero.2 e)
        have n2 : crossI bx b_y cx cy px py ≠ 0 := fun e => h3 (by rw [h1]; exact sign_zero.2 e)
        have n3 : crossI cx cy ax ay px py ≠ 0 := fun e => h3 (by rw [h1, h2]; exact sign_zero.2 e)
        rw [sign_same n1 n2] at h1
        rw [sign_same n2 n3] at h2
        omega
  · rw [if_neg hD, Bool.eq_iff_iff]
    simp only [Bool.and_eq_true, decide_eq_true_eq, sign_mul _ _ hD]
    have ne1 : ¬ (ax = bx ∧ ay = b_y) := by rintro ⟨rfl, rfl⟩; apply hD; unfold crossI; grind
    have ne2 : ¬ (bx = cx ∧ b_y = cy) := by rintro ⟨rfl, rfl⟩; apply hD; unfold crossI; grind
    have ne3 : ¬ (cx = ax ∧ cy = ay) := by rintro ⟨rfl, rfl⟩; apply hD; unfold crossI; grind
    split
    · rename_i h
      simp only [Bool.or_eq_true] at h
      refine ⟨fun _ => rfl, fun _ => ?_⟩
      rcases h with (h | h) | h
      · obtain ⟨a, b, c⟩ := of_on (cx := cx) (cy := cy) h ne1; omega
      · obtain ⟨a, b, c⟩ := of_on (cx := ax) (cy := ay) h ne2; rw [r1] at b c; omega
      · obtain ⟨a, b, c⟩ := of_on (cx := bx) (cy := b_y) h ne3; rw [r2, r1] at b c; omega
    · rename_i h
      simp only [Bool.or_eq_true, not_or, Bool.not_eq_true] at h
      obtain ⟨⟨o1, o2⟩, o3⟩ := h
      rw [decide_eq_true_iff]
      constructor
      · intro hh
        have n1 : crossI ax ay bx b_y px py ≠ 0 := fun e => by
          have := on_of hD e (by omega)
          rw [o1] at this; cases this
        have n2 : crossI bx b_y cx cy px py ≠ 0 := fun e => by
          have := on_of (ax := bx) (ay := b_y) (bx := cx) (b_y := cy) (cx := ax) (cy := ay) (by rw [r1]; exact hD) e (by rw [r1]; omega)
          rw [o2] at this; cases this
        have n3 : crossI cx cy ax ay px py ≠ 0 := fun e => by
          have := on_of (ax := cx) (ay := cy) (bx := ax) (b_y := ay) (cx := bx) (cy := b_y) (by rw [r2, r1]; exact hD) e (by rw [r2, r1]; omega)
          rw [o3] at this; cases this
        refine ⟨(sign_same n1 n2).2 (by omega), (sign_same n2 n3).2 (by omega), fun e => n1 (sign_zero.1 e)⟩
      · rintro ⟨h1, h2, h3⟩
        have n1 : crossI ax ay bx b_y px py ≠ 0 := fun e => h3 (sign_zero.2 e)
        have n2 : crossI bx b_y cx cy px py ≠ 0 := fun e => h3 (by rw [h1]; exact sign_zero.2 e)
        have n3 : crossI cx cy ax ay px py ≠ 0 := fun e => h3 (by rw [h1, h2]; exact sign_zero.2 e)
        rw [sign_same n1 n2] at h1
        rw [sign_same n2 n3] at h2
        omega
end Go.Proofs.Ytlgplhanhnjeiaa
