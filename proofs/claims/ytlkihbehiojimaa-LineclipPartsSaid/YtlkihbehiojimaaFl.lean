/-
  A slice of points, as the frame opens it (by flats).
-/
import Derived.Test.YtlkihbehiojimaaFf
import Derived.Test.YtlkihbehiojimaaE2n
namespace Go.Proofs.Ytlkihbehiojimaa
open Go.RowKit Go.Tab
def ptsL (V : Nat → Nat → Int) (m : Nat) : List (Int × Int) := (List.range m).map fun i => (V i 0, V i 1)
theorem ptsL_len (V : Nat → Nat → Int) (m : Nat) : (ptsL V m).length = m := by simp [ptsL]
theorem pts_key {w : World} {a : Option Addr} {n c : Nat} {V : Nat → Nat → Int} (hnc : n ≤ c) (hno : a = none → c = 0)
    (hc : (n = 0) ∨ ∃ b off, a = some ⟨b, off, none⟩ ∧ b < w.heap.size ∧ ∀ i, i < n → ∀ j, j < 2 → w.cell? ⟨b, off + i * 2 + j, none⟩ = some (.int .i64 (V i j))) (m : Nat) (hm : m ≤ n) (hm2 : m ≤ 1000) :
    PtsAt w (.slice a m c) (ptsL V m) := by
  refine ⟨by rw [ptsL_len]; omega, ?_⟩
  rw [ptsL_len]
  rcases hc with h0 | ⟨b, off, ha, hb, hi⟩
  · have : m = 0 := by omega
    subst this
    exact .inl ⟨⟨a, c, rfl, hno⟩, rfl⟩
  · refine .inr ⟨b, off, c, by rw [ha], hb, by omega, fun i him => ?_⟩
    have : (ptsL V m).getD i (0, 0) = (V i 0, V i 1) := by
      unfold ptsL
      rw [List.getD_eq_getElem?_getD, List.getElem?_map, List.getElem?_range him]
      rfl
    rw [this]
    exact ⟨hi i (by omega) 0 (by omega), hi i (by omega) 1 (by omega)⟩
end Go.Proofs.Ytlkihbehiojimaa
