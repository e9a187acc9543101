/-
  Layer 7: numbers turned.
-/
import Derived.Test.YtfhdljobndamgaaV1
namespace Go.Proofs.Ytfhdljobndamgaa
open Go.RowKit Go.Tab

def zig (n : Int) : Int := if n < 0 then -2 * n - 1 else 2 * n
def zag (u : Int) : Int := if u % 2 = 1 then -(u / 2) - 1 else u / 2

theorem ofInt64_nat (n : Int) (h1 : 0 ≤ n) (h2 : n < 18446744073709551616) : (BitVec.ofInt 64 n).toNat = n.toNat := by
  rw [BitVec.toNat_ofInt]; omega
theorem xor_u_zero (x : Int) (h1 : 0 ≤ x) (h2 : x < 18446744073709551616) : bits .xor .u64 x 0 = x := by
  show IntKind.u64.wrap ((BitVec.ofInt 64 x ^^^ BitVec.ofInt 64 0).toNat : Int) = x
  rw [show BitVec.ofInt 64 0 = 0#64 by decide, BitVec.xor_zero, ofInt64_nat x h1 h2, IntWalk.u64_in _ (by omega)]
  omega
theorem xor_u_ones (x : Int) (h1 : 0 ≤ x) (h2 : x < 18446744073709551616) : bits .xor .u64 x 18446744073709551615 = 18446744073709551615 - x := by
  show IntKind.u64.wrap ((BitVec.ofInt 64 x ^^^ BitVec.ofInt 64 18446744073709551615).toNat : Int) = _
  rw [show BitVec.ofInt 64 18446744073709551615 = BitVec.allOnes 64 by decide, BitVec.xor_allOnes, BitVec.toNat_not, ofInt64_nat x h1 h2, IntWalk.u64_in _ (by omega)]
  omega
theorem xor_i_zero (x : Int) (h1 : 0 ≤ x) (h2 : x < 9223372036854775808) : bits .xor .i64 x 0 = x := by
  show IntKind.i64.wrap ((BitVec.ofInt 64 x ^^^ BitVec.ofInt 64 0).toNat : Int) = x
  rw [show BitVec.ofInt 64 0 = 0#64 by decide, BitVec.xor_zero, ofInt64_nat x h1 (by omega), IntWalk.i64_in _ (by omega)]
  omega
theorem xor_i_ones (x : Int) (h1 : 0 ≤ x) (h2 : x < 9223372036854775808) : bits .xor .i64 x (-1) = -x - 1 := by
  show IntKind.i64.wrap ((BitVec.ofInt 64 x ^^^ BitVec.ofInt 64 (-1)).toNat : Int) = _
  rw [show BitVec.ofInt 64 (-1) = BitVec.allOnes 64 by decide, BitVec.xor_allOnes, BitVec.toNat_not, ofInt64_nat x h1 (by omega), IntKind.wrap_i64]
  omega
theorem and_u_one (x : Int) (h1 : 0 ≤ x) (h2 : x < 18446744073709551616) : bits .and .u64 x 1 = x % 2 := by
  show IntKind.u64.wrap ((BitVec.ofInt 64 x &&& BitVec.ofInt 64 1).toNat : Int) = _
  rw [show BitVec.ofInt 64 1 = 1#64 by decide, BitVec.toNat_and, ofInt64_nat x h1 h2, show (1#64).toNat = 1 by decide, Nat.and_one_is_mod, IntWalk.u64_in _ (by omega)]
  omega

set_option maxRecDepth 100000 in
set_option maxHeartbeats 400000 in
theorem zig_any (n : Int) (w : World) (h1 : -9223372036854775808 ≤ n) (h2 : n ≤ 9223372036854775807) : Calls Try.prog 13 #[.int .i64 n] w (Ret (.int .u64 (zig n)) w) := by
  go_enter Try.func13, Try.ntmps13
  go_wp2
  go_ret
  refine ⟨ret_int ?_, Grows.refl _⟩
  unfold zig
  split
  · rw [show IntKind.u64.wrap (n / 9223372036854775808) = 18446744073709551615 by rw [IntKind.wrap_u64]; omega, show IntKind.u64.wrap (IntKind.u64.wrap n * 2) = 2 * n + 18446744073709551616 by rw [IntKind.wrap_u64, IntKind.wrap_u64]; omega, xor_u_ones _ (by omega) (by omega)]
    omega
  · rw [show IntKind.u64.wrap (n / 9223372036854775808) = 0 by rw [IntKind.wrap_u64]; omega, show IntKind.u64.wrap (IntKind.u64.wrap n * 2) = 2 * n by rw [IntKind.wrap_u64, IntKind.wrap_u64]; omega, xor_u_zero _ (by omega) (by omega)]
set_option maxRecDepth 100000 in
set_option maxHeartbeats 400000 in
theorem zag_any (n : Int) (w : World) (h1 : 0 ≤ n) (h2 : n ≤ 18446744073709551615) : Calls Try.prog 15 #[.int .u64 n] w (Ret (.int .i64 (zag n)) w) := by
  go_enter Try.func15, Try.ntmps15
  go_wp2
  go_ret
  refine ⟨ret_int ?_, Grows.refl _⟩
  rw [and_u_one n h1 (by omega)]
  unfold zag
  split
  · rename_i h
    rw [h, show wrap64 (-wrap64 1) = -1 by unfold wrap64; omega, xor_i_ones _ (by omega) (by omega)]
  · rw [show n % 2 = 0 by omega, show wrap64 (-wrap64 0) = 0 by unfold wrap64; omega, xor_i_zero _ (by omega) (by omega)]
set_option maxRecDepth 100000 in
set_option maxHeartbeats 400000 in
theorem rzig_any (n : Int) (w : World) (h1 : -9223372036854775808 ≤ n) (h2 : n ≤ 9223372036854775807) : Calls Try.prog 14 #[.int .i64 n] w (Ret (.int .u64 (zig n)) w) := by
  go_enter Try.func14, Try.ntmps14
  go_wp2
  all_goals
    go_ret
    refine ⟨ret_int ?_, Grows.refl _⟩
    first
      | (unfold zig; split <;> omega)
      | (have h := ‹(_ == _) = _›; unfold zag; simp only [beq_iff_eq, beq_eq_false_iff_ne] at h; split <;> omega)
set_option maxRecDepth 100000 in
set_option maxHeartbeats 400000 in
theorem rzag_any (n : Int) (w : World) (h1 : 0 ≤ n) (h2 : n ≤ 18446744073709551615) : Calls Try.prog 16 #[.int .u64 n] w (Ret (.int .i64 (zag n)) w) := by
  go_enter Try.func16, Try.ntmps16
  go_wp2
  all_goals
    go_ret
    refine ⟨ret_int ?_, Grows.refl _⟩
    first
      | (unfold zig; split <;> omega)
      | (have h := ‹(_ == _) = _›; unfold zag; simp only [beq_iff_eq, beq_eq_false_iff_ne] at h; split <;> omega)
end Go.Proofs.Ytfhdljobndamgaa
