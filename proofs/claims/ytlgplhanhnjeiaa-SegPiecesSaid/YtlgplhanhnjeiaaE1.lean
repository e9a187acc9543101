/-
  Layer 1's small functions, each by its contract.
-/
import Derived.Test.YtlgplhanhnjeiaaRows
import Derived.Test.YtlgplhanhnjeiaaTab
import Derived.ProofKit
import Derived.WalkKit
import Derived.LoopTactic
import Derived.Outline
import Derived.Below
import Derived.BigQuiet
import Derived.Lib.Hide
import Derived.Lib.SmallJoins
namespace Go.Proofs.Ytlgplhanhnjeiaa
open Go.RowKit Go.Tab

abbrev pt (x y : Int) : Value := .agg #[.int .i64 x, .int .i64 y]
theorem ret_bool {a b : Bool} (h : a = b) : Ending.returned (.bool a) = .returned (.bool b) := by rw [h]
theorem ret_int {k : IntKind} {a b : Int} (h : a = b) : Ending.returned (.int k a) = .returned (.int k b) := by rw [h]

def mayB (x y : Int) : Bool := decide (-16777216 ≤ x ∧ x ≤ 16777216 ∧ -16777216 ≤ y ∧ y ≤ 16777216)
theorem mayB_iff {x y : Int} : mayB x y = true ↔ (-16777216 ≤ x ∧ x ≤ 16777216 ∧ -16777216 ≤ y ∧ y ≤ 16777216) := by simp [mayB]
theorem mul_bd {a b A B : Int} (h1 : -A ≤ a) (h2 : a ≤ A) (h3 : -B ≤ b) (h4 : b ≤ B) : -(A * B) ≤ a * b ∧ a * b ≤ A * B := by
  have hA : 0 ≤ A := by omega
  have hB : 0 ≤ B := by omega
  constructor
  · have h5 : 0 ≤ (A - a) * (B + b) := Int.mul_nonneg (by omega) (by omega)
    have h6 : 0 ≤ (A + a) * (B - b) := Int.mul_nonneg (by omega) (by omega)
    have h7 : 0 ≤ (A + a) * (B + b) := Int.mul_nonneg (by omega) (by omega)
    have h8 : 0 ≤ (A - a) * (B - b) := Int.mul_nonneg (by omega) (by omega)
    simp only [Int.sub_mul, Int.mul_sub, Int.add_mul, Int.mul_add] at h5 h6 h7 h8
    omega
  · have h5 : 0 ≤ (A - a) * (B + b) := Int.mul_nonneg (by omega) (by omega)
    have h6 : 0 ≤ (A + a) * (B - b) := Int.mul_nonneg (by omega) (by omega)
    have h7 : 0 ≤ (A + a) * (B + b) := Int.mul_nonneg (by omega) (by omega)
    have h8 : 0 ≤ (A - a) * (B - b) := Int.mul_nonneg (by omega) (by omega)
    simp only [Int.sub_mul, Int.mul_sub, Int.add_mul, Int.mul_add] at h5 h6 h7 h8
    omega

set_option maxHeartbeats 400000 in
theorem of_any (x y : Int) (w : World) : Calls Try.prog 10 #[pt x y] w (Ret (pt x y) w) := by
  go_enter Try.func10, Try.ntmps10
  go_wp2
  exact bodyPost_ret (v := pt x y) (by simp [results, Try.results10, go_sem]) rfl ⟨rfl, ((Grows.refl w).al _).al _⟩

set_option maxHeartbeats 400000 in
theorem may_any (x y : Int) (w : World) : Calls Try.prog 14 #[pt x y] w (Ret (.bool (mayB x y)) w) := by
  go_enter Try.func14, Try.ntmps14
  go_wp2
  all_goals
    go_ret
    exact ⟨ret_bool (by unfold mayB; rw [Bool.eq_iff_iff]; simp; try omega), (Grows.refl w).al _⟩

set_option maxHeartbeats 400000 in
theorem rcross_any (ax ay bx b_y cx cy : Int) (w : World) (ha : mayB ax ay = true) (hb : mayB bx b_y = true) (hc : mayB cx cy = true) :
    Calls Try.prog 20 #[pt ax ay, pt bx b_y, pt cx cy] w (Ret (.int .i64 (ax * b_y - bx * ay + bx * cy - cx * b_y + cx * ay - ax * cy)) w) := by
  obtain ⟨a1, a2, a3, a4⟩ := mayB_iff.1 ha
  obtain ⟨b1, b2, b3, b4⟩ := mayB_iff.1 hb
  obtain ⟨c1, c2, c3, c4⟩ := mayB_iff.1 hc
  obtain ⟨p1, q1⟩ := mul_bd a1 a2 b3 b4
  obtain ⟨p2, q2⟩ := mul_bd b1 b2 a3 a4
  obtain ⟨p3, q3⟩ := mul_bd b1 b2 c3 c4
  obtain ⟨p4, q4⟩ := mul_bd c1 c2 b3 b4
  obtain ⟨p5, q5⟩ := mul_bd c1 c2 a3 a4
  obtain ⟨p6, q6⟩ := mul_bd a1 a2 c3 c4
  clear ha hb hc
  go_enter Try.func20, Try.ntmps20
  go_wp2
  go_ret
  exact ⟨rfl, (((Grows.refl w).al _).al _).al _⟩

def lessB (ax ay bx b_y : Int) : Bool := if ax = bx then decide (ay < b_y) else decide (ax < bx)
set_option maxHeartbeats 400000 in
theorem less_any (ax ay bx b_y : Int) (w : World) : Calls Try.prog 37 #[pt ax ay, pt bx b_y] w (Ret (.bool (lessB ax ay bx b_y)) w) := by
  go_enter Try.func37, Try.ntmps37
  go_wp2
  all_goals
    go_ret
    exact ⟨ret_bool (by unfold lessB; split <;> simp_all), ((Grows.refl w).al _).al _⟩
def signI (n : Int) : Int := if 0 < n then 1 else if n < 0 then -1 else 0
set_option maxHeartbeats 400000 in
theorem rsign_any (n : Int) (w : World) : Calls Try.prog 26 #[.int .i64 n] w (Ret (.int .i64 (signI n)) w) := by
  go_enter Try.func26, Try.ntmps26
  go_wp2
  all_goals
    go_ret
    exact ⟨ret_int (by unfold signI; split <;> (try split) <;> omega), Grows.refl _⟩

def betwB (a b n : Int) : Bool := decide ((a ≤ n ∧ n ≤ b) ∨ (b ≤ n ∧ n ≤ a))
set_option maxHeartbeats 400000 in
theorem between_any (a b n : Int) (w : World) : Calls Try.prog 38 #[.int .i64 a, .int .i64 b, .int .i64 n] w (Ret (.bool (betwB a b n)) w) := by
  go_enter Try.func38, Try.ntmps38
  go_wp2
  all_goals
    go_ret
    exact ⟨ret_bool (by unfold betwB; rw [Bool.eq_iff_iff]; simp; try omega), Grows.refl _⟩
end Go.Proofs.Ytlgplhanhnjeiaa
