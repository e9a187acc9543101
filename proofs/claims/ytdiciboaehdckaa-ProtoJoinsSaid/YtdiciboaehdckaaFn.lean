/-
  Rows of numbers from 0 on, as the frame opens them.
-/
import Derived.Test.YtdiciboaehdckaaFr
import Derived.Test.YtdiciboaehdckaaV3
namespace Go.Proofs.Ytdiciboaehdckaa
open Go.RowKit Go.Tab

def numsL (V : Nat → Int) (m : Nat) : List Nat := (List.range m).map fun i => (V i).toNat
theorem numsL_len (V : Nat → Int) (m : Nat) : (numsL V m).length = m := by simp [numsL]
theorem nums_key {k : IntKind} {w : World} {a : Option Addr} {n c B : Nat} {V : Nat → Int} (hB : ∀ x : Int, (Lit.int k x).wf = true → 0 ≤ x ∧ x < B) (hnc : n ≤ c) (hwf : ∀ i, i < n → (Lit.int k (V i)).wf = true) (hno : a = none → c = 0)
    (hc : (n = 0) ∨ ∃ b off, a = some ⟨b, off, none⟩ ∧ b < w.heap.size ∧ ∀ i, i < n → w.cell? ⟨b, off + i, none⟩ = some (.int k (V i))) (m : Nat) (hm : m ≤ n) (hm2 : m ≤ 1000) :
    NumsAt k w (.slice a m c) (numsL V m) ∧ ∀ x ∈ numsL V m, x < B := by
  refine ⟨⟨by rw [numsL_len]; omega, ?_⟩, fun x hx => ?_⟩
  · rw [numsL_len]
    rcases hc with h0 | ⟨b, off, ha, hb, hi⟩
    · have : m = 0 := by omega
      subst this
      exact .inl ⟨⟨a, c, rfl, hno⟩, rfl⟩
    · refine .inr ⟨b, off, c, by rw [ha], hb, by omega, fun i him => ?_⟩
      rw [hi i (by omega)]
      have h1 := (hB _ (hwf i (by omega))).1
      have : (numsL V m).getD i 0 = (V i).toNat := by
        unfold numsL
        rw [List.getD_eq_getElem?_getD, List.getElem?_map, List.getElem?_range him]
        rfl
      rw [this, Int.toNat_of_nonneg h1]
  · obtain ⟨i, hi, rfl⟩ := List.mem_map.1 hx
    have := hB _ (hwf i (by have := List.mem_range.1 hi; omega))
    omega
theorem u8_lt (x : Int) (h : (Lit.int .u8 x).wf = true) : 0 ≤ x ∧ x < (256 : Nat) := by have := wf_u8 h; omega
theorem u64_lt (x : Int) (h : (Lit.int .u64 x).wf = true) : 0 ≤ x ∧ x < (18446744073709551616 : Nat) := by have := wf_u64 h; omega
end Go.Proofs.Ytdiciboaehdckaa
