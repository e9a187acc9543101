/-
  Layer 1's small functions, each by its contract.
-/
import Derived.Test.YtlkihbehiojimaaRows
import Derived.Test.YtlkihbehiojimaaTab
import Derived.ProofKit
import Derived.WalkKit
import Derived.LoopTactic
import Derived.Outline
import Derived.Below
import Derived.BigQuiet
import Derived.Lib.Hide
import Derived.Lib.SmallJoins
namespace Go.Proofs.Ytlkihbehiojimaa
open Go.RowKit Go.Tab

abbrev pt (x y : Int) : Value := .agg #[.int .i64 x, .int .i64 y]
theorem ret_bool {a b : Bool} (h : a = b) : Ending.returned (.bool a) = .returned (.bool b) := by rw [h]
theorem ret_int {k : IntKind} {a b : Int} (h : a = b) : Ending.returned (.int k a) = .returned (.int k b) := by rw [h]

def mayB (x y : Int) : Bool := decide (-16777216 ≤ x ∧ x ≤ 16777216 ∧ -16777216 ≤ y ∧ y ≤ 16777216)
theorem mayB_iff {x y : Int} : mayB x y = true ↔ (-16777216 ≤ x ∧ x ≤ 16777216 ∧ -16777216 ≤ y ∧ y ≤ 16777216) := by simp [mayB]
theorem mul_bd {a b A B : Int} (h1 : -A ≤ a) (h2 : a ≤ A) (h3 : -B ≤ b) (h4 : b ≤ B) : -(A * B) ≤ a * b ∧ a * b ≤ A * B := by
  have hA : 0 ≤ A := by omega
  have hB : 0 ≤ B := by omega
  constructor
  · have h5 : 0 ≤ (A - a) * (B + b) := Int.mul_nonneg (by omega) (by omega)
    have h6 : 0 ≤ (A + a) * (B - b) := Int.mul_nonneg (by omega) (by omega)
    have h7 : 0 ≤ (A + a) * (B + b) := Int.mul_nonneg (by omega) (by omega)
    have h8 : 0 ≤ (A - a) * (B - b) := Int.mul_nonneg (by omega) (by omega)
    simp only [Int.sub_mul, Int.mul_sub, Int.add_mul, Int.mul_add] at h5 h6 h7 h8
    omega
  · have h5 : 0 ≤ (A - a) * (B + b) := Int.mul_nonneg (by omega) (by omega)
    have h6 : 0 ≤ (A + a) * (B - b) := Int.mul_nonneg (by omega) (by omega)
    have h7 : 0 ≤ (A + a) * (B + b) := Int.mul_nonneg (by omega) (by omega)
    have h8 : 0 ≤ (A - a) * (B - b) := Int.mul_nonneg (by omega) (by omega)
    simp only [Int.sub_mul, Int.mul_sub, Int.add_mul, Int.mul_add] at h5 h6 h7 h8
    omega

set_option maxHeartbeats 400000 in
theorem of_any (x y : Int) (w : World) : Calls Try.prog 25 #[pt x y] w (Ret (pt x y) w) := by
  go_enter Try.func25, Try.ntmps25
  go_wp2
  exact bodyPost_ret (v := pt x y) (by simp [results, Try.results25, go_sem]) rfl ⟨rfl, ((Grows.refl w).al _).al _⟩

set_option maxHeartbeats 400000 in
theorem may_any (x y : Int) (w : World) : Calls Try.prog 24 #[pt x y] w (Ret (.bool (mayB x y)) w) := by
  go_enter Try.func24, Try.ntmps24
  go_wp2
  all_goals
    go_ret
    exact ⟨ret_bool (by unfold mayB; rw [Bool.eq_iff_iff]; simp; try omega), (Grows.refl w).al _⟩

def lessB (ax ay bx b_y : Int) : Bool := if ax = bx then decide (ay < b_y) else decide (ax < bx)
def signI (n : Int) : Int := if 0 < n then 1 else if n < 0 then -1 else 0
set_option maxHeartbeats 400000 in
theorem rsign_any (n : Int) (w : World) : Calls Try.prog 40 #[.int .i64 n] w (Ret (.int .i64 (signI n)) w) := by
  go_enter Try.func40, Try.ntmps40
  go_wp2
  all_goals
    go_ret
    exact ⟨ret_int (by unfold signI; split <;> (try split) <;> omega), Grows.refl _⟩

def betwB (a b n : Int) : Bool := decide ((a ≤ n ∧ n ≤ b) ∨ (b ≤ n ∧ n ≤ a))
end Go.Proofs.Ytlkihbehiojimaa
