/-
  Layer 22: the middle of two places: above a bound, between bounds.
-/
import Derived.Test.YtlkihbehiojimaaK6
import Derived.Test.YtlkihbehiojimaaE8
namespace Go.Proofs.Ytlkihbehiojimaa
open Go.RowKit Go.Tab

/-- Is x + y (a/b + c/d) above 0? -/
def aboveB (x y a b c d : Int) : Bool := decide (0 < x * (b * d) + y * (a * d + c * b))
theorem above_split (x y a b c d q1 q2 : Int) : x * (b * d) + y * (a * d + c * b) = (q1 + q2 + x) * (b * d) + ((y * a - b * q1) * d + (y * c - d * q2) * b) := by grind
theorem above_yes {x y a b c d q1 q2 : Int} (hb : 1 ≤ b) (hd : 1 ≤ d) (h1 : 0 ≤ y * a - b * q1) (h2 : 0 ≤ y * c - d * q2) (hw : 0 < q1 + q2 + x) : aboveB x y a b c d = true := by
  unfold aboveB
  rw [above_split x y a b c d q1 q2]
  have e1 : 0 < (q1 + q2 + x) * (b * d) := Int.mul_pos hw (Int.mul_pos (by omega) (by omega))
  have e2 := Int.mul_nonneg h1 (show 0 ≤ d by omega)
  have e3 := Int.mul_nonneg h2 (show 0 ≤ b by omega)
  exact decide_eq_true (by omega)
theorem above_zero {x y a b c d q1 q2 : Int} (hb : 1 ≤ b) (hd : 1 ≤ d) (h1 : 0 ≤ y * a - b * q1) (h2 : 0 ≤ y * c - d * q2) (hw : q1 + q2 + x = 0) : aboveB x y a b c d = (decide (0 < y * a - b * q1) || decide (0 < y * c - d * q2)) := by
  unfold aboveB
  rw [above_split x y a b c d q1 q2, hw, Int.zero_mul, Int.zero_add]
  generalize y * a - b * q1 = r at h1
  generalize y * c - d * q2 = s at h2
  have e2 := Int.mul_nonneg h1 (show 0 ≤ d by omega)
  have e3 := Int.mul_nonneg h2 (show 0 ≤ b by omega)
  by_cases hr : 0 < r
  · have := Int.mul_pos hr (show 0 < d by omega)
    simp only [hr, decide_true, Bool.true_or]
    exact decide_eq_true (by omega)
  · have hr0 : r = 0 := by omega
    subst hr0
    by_cases hs : 0 < s
    · have := Int.mul_pos hs (show 0 < b by omega)
      simp only [hs, decide_true, Bool.or_true]
      exact decide_eq_true (by omega)
    · have hs0 : s = 0 := by omega
      subst hs0
      simp
theorem above_one {x y a b c d q1 q2 : Int} (hw : q1 + q2 + x = -1) : aboveB x y a b c d = decide (b * d < (y * a - b * q1) * d + (y * c - d * q2) * b) := by
  unfold aboveB
  rw [above_split x y a b c d q1 q2, hw]
  exact decide_eq_decide.2 (by omega)
theorem above_no {x y a b c d q1 q2 : Int} (hb : 1 ≤ b) (hd : 1 ≤ d) (h1 : y * a - b * q1 < b) (h2 : y * c - d * q2 < d) (hw : q1 + q2 + x ≤ -2) : aboveB x y a b c d = false := by
  unfold aboveB
  rw [above_split x y a b c d q1 q2]
  generalize y * a - b * q1 = r at h1
  generalize y * c - d * q2 = s at h2
  generalize q1 + q2 + x = k at hw
  have hbd : 0 < b * d := Int.mul_pos (by omega) (by omega)
  have e1 : k * (b * d) ≤ -2 * (b * d) := Int.mul_le_mul_of_nonneg_right hw (by omega)
  have e2 : r * d ≤ b * d := Int.mul_le_mul_of_nonneg_right (by omega) (by omega)
  have e3 : s * b ≤ d * b := Int.mul_le_mul_of_nonneg_right (by omega) (by omega)
  have e4 : d * b = b * d := Int.mul_comm _ _
  exact decide_eq_false (by omega)
set_option maxRecDepth 100000 in
set_option maxHeartbeats 2000000 in
theorem above_any (x y a b c d : Int) (w : World) (hx1 : -134217728 ≤ x) (hx2 : x ≤ 134217728) (hy1 : -33554432 ≤ y) (hy2 : y ≤ 33554432) (ha0 : 0 ≤ a) (hab : a ≤ b) (hb : 1 ≤ b) (hb2 : b ≤ 33554432) (hc0 : 0 ≤ c) (hcd : c ≤ d) (hd : 1 ≤ d) (hd2 : d ≤ 33554432) :
    Calls Try.prog 45 #[.int .i64 x, .int .i64 y, .int .i64 a, .int .i64 b, .int .i64 c, .int .i64 d] w (Ret (.bool (aboveB x y a b c d)) w) := by
  have m1 := mul_bd (A := 33554432) (B := 33554432) hy1 hy2 (show -33554432 ≤ a by omega) (show a ≤ 33554432 by omega)
  have m2 := mul_bd (A := 33554432) (B := 33554432) hy1 hy2 (show -33554432 ≤ c by omega) (show c ≤ 33554432 by omega)
  have F1 : Hid (∀ w, Calls Try.prog 46 #[.int .i64 (y * a), .int .i64 b] w (Ret (.int .i64 (y * a / b)) w)) := Lib.hid fun w => rfloor_any _ _ w (by simp [divB]; omega)
  have F2 : Hid (∀ w, Calls Try.prog 46 #[.int .i64 (y * c), .int .i64 d] w (Ret (.int .i64 (y * c / d)) w)) := Lib.hid fun w => rfloor_any _ _ w (by simp [divB]; omega)
  have r1 := Int.emod_nonneg (y * a) (show b ≠ 0 by omega)
  have r2 := Int.emod_lt_of_pos (y * a) (show 0 < b by omega)
  have s1 := Int.emod_nonneg (y * c) (show d ≠ 0 by omega)
  have s2 := Int.emod_lt_of_pos (y * c) (show 0 < d by omega)
  rw [Int.emod_def] at r1 r2 s1 s2
  have q1b : -1125899906842624 ≤ y * a / b ∧ y * a / b ≤ 1125899906842624 := by
    refine ⟨?_, ?_⟩
    · exact Int.le_trans (by omega) (Int.le_ediv_of_mul_le (a := -1125899906842624) (show 0 < b by omega) (by have : (-1125899906842624 : Int) * b ≤ -1125899906842624 * 1 := Int.mul_le_mul_of_nonpos_left (by decide) hb; omega))
    · exact Int.ediv_le_of_le_mul (show 0 < b by omega) (by have : (1125899906842624 : Int) * 1 ≤ 1125899906842624 * b := Int.mul_le_mul_of_nonneg_left hb (by decide); omega)
  have q2b : -1125899906842624 ≤ y * c / d ∧ y * c / d ≤ 1125899906842624 := by
    refine ⟨?_, ?_⟩
    · exact Int.le_trans (by omega) (Int.le_ediv_of_mul_le (a := -1125899906842624) (show 0 < d by omega) (by have : (-1125899906842624 : Int) * d ≤ -1125899906842624 * 1 := Int.mul_le_mul_of_nonpos_left (by decide) hd; omega))
    · exact Int.ediv_le_of_le_mul (show 0 < d by omega) (by have : (1125899906842624 : Int) * 1 ≤ 1125899906842624 * d := Int.mul_le_mul_of_nonneg_left hd (by decide); omega)
  have bd1 : b * d ≤ 33554432 * 33554432 := Int.mul_le_mul hb2 hd2 (by omega) (by decide)
  have bd0 : 0 < b * d := Int.mul_pos (by omega) (by omega)
  obtain ⟨q1, hq1⟩ : ∃ q, q = y * a / b := ⟨_, rfl⟩
  obtain ⟨q2, hq2⟩ : ∃ q, q = y * c / d := ⟨_, rfl⟩
  rw [← hq1] at F1 r1 r2 q1b
  rw [← hq2] at F2 s1 s2 q2b
  clear hq1 hq2
  have t1 := Int.mul_nonneg r1 (show 0 ≤ d by omega)
  have t2 : (y * a - b * q1) * d ≤ b * d := Int.mul_le_mul_of_nonneg_right (by omega) (by omega)
  have t3 := Int.mul_nonneg s1 (show 0 ≤ b by omega)
  have t4 : (y * c - d * q2) * b ≤ d * b := Int.mul_le_mul_of_nonneg_right (by omega) (by omega)
  rw [Int.mul_comm d b] at t4
  have A1 := Lib.hid (above_yes (x := x) hb hd r1 s1)
  have A2 := Lib.hid (above_zero (x := x) hb hd r1 s1)
  have A3 := Lib.hid (above_one (x := x) (y := y) (a := a) (b := b) (c := c) (d := d) (q1 := q1) (q2 := q2))
  have A4 := Lib.hid (above_no (x := x) hb hd r2 s2)
  have T := Lib.hid (show (-(33554432 * 33554432) ≤ y * a ∧ y * a ≤ 33554432 * 33554432) ∧ (-(33554432 * 33554432) ≤ y * c ∧ y * c ≤ 33554432 * 33554432) from ⟨m1, m2⟩)
  have B1 : -2251799813685248 ≤ b * q1 ∧ b * q1 ≤ 2251799813685248 := by omega
  have B2 : -2251799813685248 ≤ d * q2 ∧ d * q2 ≤ 2251799813685248 := by omega
  go_enter Try.func45, Try.ntmps45
  go_wp2_with fail
  refine (F1.out _).mono ?_
  rintro _ w1 ⟨rfl, hg⟩
  have G1 := Lib.hid hg
  clear hg
  go_wp2_with fail
  refine (F2.out _).mono ?_
  rintro _ w2 ⟨rfl, hg⟩
  have G2 := Lib.hid (G1.out.trans hg)
  clear hg
  go_wp2_with fail
  refine (F1.out _).mono ?_
  rintro _ w3 ⟨rfl, hg⟩
  have G3 := Lib.hid (G2.out.trans hg)
  clear hg
  go_wp2_with fail
  refine (F2.out _).mono ?_
  rintro _ w4 ⟨rfl, hg⟩
  have G4 := Lib.hid (G3.out.trans hg)
  clear hg
  have C4 : 0 < q1 + q2 + x ∨ q1 + q2 + x = 0 ∨ q1 + q2 + x = -1 ∨ q1 + q2 + x ≤ -2 := by omega
  rcases C4 with h | h | h | h
  · go_wp2
    go_ret
    exact ⟨ret_bool (A1.out h).symm, G4.out⟩
  · have HX := Lib.hid (A2.out h)
    by_cases h1 : 0 < y * a - b * q1
    · go_wp2
      go_ret
      exact ⟨ret_bool (by rw [HX.out, decide_eq_true h1]; rfl), G4.out⟩
    · go_wp2
      go_ret
      exact ⟨ret_bool (by rw [HX.out]; congr 1 <;> exact decide_eq_decide.2 (by omega)), G4.out⟩
  · have HX := Lib.hid (A3.out h)
    go_wp2
    go_ret
    exact ⟨ret_bool (by rw [HX.out]), G4.out⟩
  · have HX := Lib.hid (A4.out h)
    go_wp2
    go_ret
    exact ⟨ret_bool (by rw [HX.out]), G4.out⟩
end Go.Proofs.Ytlkihbehiojimaa
