/-
  Layer 22: an edge in a box (pure).
-/
import Derived.Test.YtlkihbehiojimaaE4n
namespace Go.Proofs.Ytlkihbehiojimaa
open Go.RowKit Go.Tab

/-- A box: least X, least Y, greatest X, greatest Y. -/
structure BoxI where
  lx : Int
  ly : Int
  hx : Int
  hy : Int
def BoxI.right (b : BoxI) : Bool := mayB b.lx b.ly && mayB b.hx b.hy && decide (b.lx ≤ b.hx) && decide (b.ly ≤ b.hy)
def BoxI.has (b : BoxI) (px py : Int) : Bool := b.right && mayB px py && decide (b.lx ≤ px) && decide (px ≤ b.hx) && decide (b.ly ≤ py) && decide (py ≤ b.hy)
def alongB (px py qx qy : Int) (b : BoxI) : Bool := (decide (px = qx) && (decide (px = b.lx) || decide (px = b.hx))) || (decide (py = qy) && (decide (py = b.ly) || decide (py = b.hy)))
def shownB (px py qx qy : Int) (b : BoxI) : Bool := !(decide (px = qx ∧ py = qy)) && b.has px py && b.has qx qy && !(alongB px py qx qy b)
theorem BoxI.right_iff {b : BoxI} : b.right = true ↔ mayB b.lx b.ly = true ∧ mayB b.hx b.hy = true ∧ b.lx ≤ b.hx ∧ b.ly ≤ b.hy := by
  simp [BoxI.right, and_assoc]
theorem BoxI.has_iff {b : BoxI} {px py : Int} : b.has px py = true ↔ b.right = true ∧ mayB px py = true ∧ b.lx ≤ px ∧ px ≤ b.hx ∧ b.ly ≤ py ∧ py ≤ b.hy := by
  simp [BoxI.has, and_assoc]
theorem alongB_iff {px py qx qy : Int} {b : BoxI} : alongB px py qx qy b = true ↔ (px = qx ∧ (px = b.lx ∨ px = b.hx)) ∨ (py = qy ∧ (py = b.ly ∨ py = b.hy)) := by
  simp [alongB]
theorem shownB_iff {px py qx qy : Int} {b : BoxI} : shownB px py qx qy b = true ↔ ¬ (px = qx ∧ py = qy) ∧ b.has px py = true ∧ b.has qx qy = true ∧ ¬ ((px = qx ∧ (px = b.lx ∨ px = b.hx)) ∨ (py = qy ∧ (py = b.ly ∨ py = b.hy))) := by
  rw [← alongB_iff]
  simp only [shownB, Bool.and_eq_true, Bool.not_eq_true', decide_eq_false_iff_not, and_assoc, Bool.not_eq_true]
/-- The four corners' doubled areas. -/
def turnS (px py qx qy cx cy : Int) : Int := signI (crossI px py qx qy cx cy)
def leftB (px py qx qy : Int) (b : BoxI) : Bool := decide (0 < crossI px py qx qy b.lx b.ly) || decide (0 < crossI px py qx qy b.hx b.ly) || decide (0 < crossI px py qx qy b.hx b.hy) || decide (0 < crossI px py qx qy b.lx b.hy)
def rightSB (px py qx qy : Int) (b : BoxI) : Bool := decide (crossI px py qx qy b.lx b.ly < 0) || decide (crossI px py qx qy b.hx b.ly < 0) || decide (crossI px py qx qy b.hx b.hy < 0) || decide (crossI px py qx qy b.lx b.hy < 0)
def beyondB (px py qx qy : Int) (b : BoxI) : Bool := decide (max px qx ≤ b.lx) || decide (b.hx ≤ min px qx) || decide (max py qy ≤ b.ly) || decide (b.hy ≤ min py qy)
def entersB (px py qx qy : Int) (b : BoxI) : Bool := !(beyondB px py qx qy b) && leftB px py qx qy b && rightSB px py qx qy b

theorem neg_pos_mul {a b : Int} (h1 : a < 0) (h2 : 0 < b) : a * b < 0 := Int.mul_neg_of_neg_of_pos h1 h2
/-- Within a box, and not along a side: corners on both sides. -/
theorem both_sides (px py qx qy : Int) (b : BoxI) (hne : ¬ (px = qx ∧ py = qy)) (p1 : b.lx ≤ px) (p2 : px ≤ b.hx) (p3 : b.ly ≤ py) (p4 : py ≤ b.hy) (q1 : b.lx ≤ qx) (q2 : qx ≤ b.hx) (q3 : b.ly ≤ qy) (q4 : qy ≤ b.hy)
    (ha : ¬ ((px = qx ∧ (px = b.lx ∨ px = b.hx)) ∨ (py = qy ∧ (py = b.ly ∨ py = b.hy)))) : leftB px py qx qy b = true ∧ rightSB px py qx qy b = true := by
  simp only [leftB, rightSB, Bool.or_eq_true, decide_eq_true_eq]
  unfold crossI
  obtain ⟨dx, hdx⟩ : ∃ dx, qx - px = dx := ⟨_, rfl⟩
  obtain ⟨dy, hdy⟩ : ∃ dy, qy - py = dy := ⟨_, rfl⟩
  obtain ⟨l, hl⟩ : ∃ l, b.lx - px = l := ⟨_, rfl⟩
  obtain ⟨r, hr⟩ : ∃ r, b.hx - px = r := ⟨_, rfl⟩
  obtain ⟨d, hd⟩ : ∃ d, b.ly - py = d := ⟨_, rfl⟩
  obtain ⟨u, hu⟩ : ∃ u, b.hy - py = u := ⟨_, rfl⟩
  rw [hdx, hdy, hl, hr, hd, hu]
  have e1 : l ≤ 0 := by omega
  have e2 : 0 ≤ r := by omega
  have e3 : d ≤ 0 := by omega
  have e4 : 0 ≤ u := by omega
  have f1 : l ≤ dx := by omega
  have f2 : dx ≤ r := by omega
  have f3 : d ≤ dy := by omega
  have f4 : dy ≤ u := by omega
  have g1 : dx = 0 → l < 0 ∧ 0 < r := by omega
  have g2 : dy = 0 → d < 0 ∧ 0 < u := by omega
  have g3 : dx ≠ 0 ∨ dy ≠ 0 := by omega
  clear hne ha p1 p2 p3 p4 q1 q2 q3 q4 hdx hdy hl hr hd hu
  rcases Int.lt_trichotomy dx 0 with hx | hx | hx
  · rcases Int.lt_trichotomy dy 0 with hy | hy | hy
    · have a1 := Int.mul_pos_of_neg_of_neg hx hy
      have a2 : 0 ≤ dx * (d - dy) := Int.mul_nonneg_of_nonpos_of_nonpos (by omega) (by omega)
      have a3 : 0 ≤ (-dy) * r := Int.mul_nonneg (by omega) e2
      have a4 : 0 ≤ (-dx) * u := Int.mul_nonneg (by omega) e4
      have a5 : 0 ≤ dy * (l - dx) := Int.mul_nonneg_of_nonpos_of_nonpos (by omega) (by omega)
      constructor
      · left; left; right; grind
      · right; grind
    · subst hy
      have := g2 rfl
      have a1 := Int.mul_pos_of_neg_of_neg hx this.1
      have a2 := Int.mul_pos (show 0 < -dx by omega) this.2
      constructor
      · left; left; left; grind
      · right; grind
    · have a1 := Int.mul_pos (show 0 < -dx by omega) hy
      have a2 : 0 ≤ (-dx) * (u - dy) := Int.mul_nonneg (by omega) (by omega)
      have a3 : 0 ≤ dy * r := Int.mul_nonneg (by omega) e2
      have a4 : 0 ≤ dx * d := Int.mul_nonneg_of_nonpos_of_nonpos (by omega) e3
      have a5 : 0 ≤ dy * (dx - l) := Int.mul_nonneg (by omega) (by omega)
      constructor
      · left; left; left; grind
      · left; right; grind
  · subst hx
    have := g1 rfl
    rcases Int.lt_trichotomy dy 0 with hy | hy | hy
    · have a1 := Int.mul_pos (show 0 < -dy by omega) this.2
      have a2 := Int.mul_pos_of_neg_of_neg hy this.1
      constructor
      · left; left; right; grind
      · left; left; left; grind
    · omega
    · have a1 := Int.mul_pos hy this.2
      have a2 := Int.mul_pos hy (show 0 < -l by omega)
      constructor
      · left; left; left; grind
      · left; left; right; grind
  · rcases Int.lt_trichotomy dy 0 with hy | hy | hy
    · have a1 := Int.mul_pos hx (show 0 < -dy by omega)
      have a2 : 0 ≤ dx * u := Int.mul_nonneg (by omega) e4
      have a3 : 0 ≤ (-dy) * (r - dx) := Int.mul_nonneg (by omega) (by omega)
      have a4 : 0 ≤ dx * (dy - d) := Int.mul_nonneg (by omega) (by omega)
      have a5 : 0 ≤ dy * l := Int.mul_nonneg_of_nonpos_of_nonpos (by omega) e1
      constructor
      · left; right; grind
      · left; left; left; grind
    · subst hy
      have := g2 rfl
      have a1 := Int.mul_pos hx this.2
      have a2 := Int.mul_pos hx (show 0 < -d by omega)
      constructor
      · right; grind
      · left; left; left; grind
    · have a1 := Int.mul_pos hx hy
      have a2 : 0 ≤ dx * (u - dy) := Int.mul_nonneg (by omega) (by omega)
      have a3 : 0 ≤ dy * (-l) := Int.mul_nonneg (by omega) (by omega)
      have a4 : 0 ≤ dx * (-d) := Int.mul_nonneg (by omega) (by omega)
      have a5 : 0 ≤ dy * (r - dx) := Int.mul_nonneg (by omega) (by omega)
      constructor
      · right; grind
      · left; left; right; grind

/-- No line of a side cuts the edge strictly between its ends. -/
def uncutB (p q c : Int) : Bool := !(decide (min p q < c) && decide (c < max p q))
theorem meets_shown (px py qx qy : Int) (b : BoxI) (hb : b.right = true) (hp : mayB px py = true) (hq : mayB qx qy = true) (u1 : uncutB px qx b.lx = true) (u2 : uncutB px qx b.hx = true) (u3 : uncutB py qy b.ly = true) (u4 : uncutB py qy b.hy = true) :
    (!(decide (b.lx = b.hx) || decide (b.ly = b.hy)) && !(decide (px = qx ∧ py = qy)) && entersB px py qx qy b) = shownB px py qx qy b := by
  simp only [uncutB, Bool.not_eq_true', Bool.and_eq_false_iff, decide_eq_false_iff_not] at u1 u2 u3 u4
  have hbr := BoxI.right_iff.1 hb
  rw [Bool.eq_iff_iff, shownB_iff]
  simp only [entersB, beyondB, Bool.and_eq_true, Bool.not_eq_true', Bool.or_eq_false_iff, decide_eq_false_iff_not, BoxI.has_iff]
  constructor
  · rintro ⟨⟨⟨h1, h2⟩, h3⟩, ⟨⟨h4, h5⟩, h6⟩⟩
    refine ⟨h3, ⟨hb, hp, ?_, ?_, ?_, ?_⟩, ⟨hb, hq, ?_, ?_, ?_, ?_⟩, ?_⟩ <;> omega
  · rintro ⟨h1, ⟨_, _, p1, p2, p3, p4⟩, ⟨_, _, q1, q2, q3, q4⟩, h2⟩
    have := both_sides px py qx qy b h1 p1 p2 p3 p4 q1 q2 q3 q4 h2
    refine ⟨⟨⟨by omega, by omega⟩, h1⟩, ⟨⟨?_, this.1⟩, this.2⟩⟩
    refine ⟨⟨⟨?_, ?_⟩, ?_⟩, ?_⟩ <;> omega
end Go.Proofs.Ytlkihbehiojimaa
