/-
  Layer 7: numbers turned.
-/
import Derived.Test.YtdiciboaehdckaaV1
namespace Go.Proofs.Ytdiciboaehdckaa
open Go.RowKit Go.Tab

def zig (n : Int) : Int := if n < 0 then -2 * n - 1 else 2 * n
def zag (u : Int) : Int := if u % 2 = 1 then -(u / 2) - 1 else u / 2

theorem ofInt64_nat (n : Int) (h1 : 0 ≤ n) (h2 : n < 18446744073709551616) : (BitVec.ofInt 64 n).toNat = n.toNat := by
  rw [BitVec.toNat_ofInt]; omega
theorem xor_u_zero (x : Int) (h1 : 0 ≤ x) (h2 : x < 18446744073709551616) : bits .xor .u64 x 0 = x := by
  show IntKind.u64.wrap ((BitVec.ofInt 64 x ^^^ BitVec.ofInt 64 0).toNat : Int) = x
  rw [show BitVec.ofInt 64 0 = 0#64 by decide, BitVec.xor_zero, ofInt64_nat x h1 h2, IntWalk.u64_in _ (by omega)]
  omega
theorem xor_u_ones (x : Int) (h1 : 0 ≤ x) (h2 : x < 18446744073709551616) : bits .xor .u64 x 18446744073709551615 = 18446744073709551615 - x := by
  show IntKind.u64.wrap ((BitVec.ofInt 64 x ^^^ BitVec.ofInt 64 18446744073709551615).toNat : Int) = _
  rw [show BitVec.ofInt 64 18446744073709551615 = BitVec.allOnes 64 by decide, BitVec.xor_allOnes, BitVec.toNat_not, ofInt64_nat x h1 h2, IntWalk.u64_in _ (by omega)]
  omega
theorem xor_i_zero (x : Int) (h1 : 0 ≤ x) (h2 : x < 9223372036854775808) : bits .xor .i64 x 0 = x := by
  show IntKind.i64.wrap ((BitVec.ofInt 64 x ^^^ BitVec.ofInt 64 0).toNat : Int) = x
  rw [show BitVec.ofInt 64 0 = 0#64 by decide, BitVec.xor_zero, ofInt64_nat x h1 (by omega), IntWalk.i64_in _ (by omega)]
  omega
theorem xor_i_ones (x : Int) (h1 : 0 ≤ x) (h2 : x < 9223372036854775808) : bits .xor .i64 x (-1) = -x - 1 := by
  show IntKind.i64.wrap ((BitVec.ofInt 64 x ^^^ BitVec.ofInt 64 (-1)).toNat : Int) = _
  rw [show BitVec.ofInt 64 (-1) = BitVec.allOnes 64 by decide, BitVec.xor_allOnes, BitVec.toNat_not, ofInt64_nat x h1 (by omega), IntKind.wrap_i64]
  omega
theorem and_u_one (x : Int) (h1 : 0 ≤ x) (h2 : x < 18446744073709551616) : bits .and .u64 x 1 = x % 2 := by
  show IntKind.u64.wrap ((BitVec.ofInt 64 x &&& BitVec.ofInt 64 1).toNat : Int) = _
  rw [show BitVec.ofInt 64 1 = 1#64 by decide, BitVec.toNat_and, ofInt64_nat x h1 h2, show (1#64).toNat = 1 by decide, Nat.and_one_is_mod, IntWalk.u64_in _ (by omega)]
  omega

end Go.Proofs.Ytdiciboaehdckaa
