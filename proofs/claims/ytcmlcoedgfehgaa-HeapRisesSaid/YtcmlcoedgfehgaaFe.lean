/-
  Layer 5: a slice of entries, as the frame opens it.
-/
import Derived.Test.YtcmlcoedgfehgaaFf
import Derived.Test.YtcmlcoedgfehgaaH7
namespace Go.Proofs.Ytcmlcoedgfehgaa
open Go.RowKit Go.Tab
def entsL (V : Nat → Nat → Int) (m : Nat) : List Ent3 := (List.range m).map fun i => (V i 0, V i 1, V i 2)
theorem entsL_len (V : Nat → Nat → Int) (m : Nat) : (entsL V m).length = m := by simp [entsL]
theorem ents_key {w : World} {a : Option Addr} {n c : Nat} {V : Nat → Nat → Int} (hnc : n ≤ c) (hno : a = none → c = 0)
    (hc : (n = 0) ∨ ∃ b off, a = some ⟨b, off, none⟩ ∧ b < w.heap.size ∧ ∀ i, i < n → ∀ j, j < 3 → w.cell? ⟨b, off + i * 3 + j, none⟩ = some (.int .i64 (V i j))) (m : Nat) (hm : m ≤ n) (hm2 : m ≤ 1000) :
    EntsAt w (.slice a m c) (entsL V m) := by
  refine ⟨by rw [entsL_len]; omega, ?_⟩
  rw [entsL_len]
  rcases hc with h0 | ⟨b, off, ha, hb, hi⟩
  · have : m = 0 := by omega
    subst this
    exact .inl ⟨⟨a, c, rfl, hno⟩, rfl⟩
  · refine .inr ⟨b, off, c, by rw [ha], hb, by omega, fun i him => ?_⟩
    have : (entsL V m).getD i e0 = (V i 0, V i 1, V i 2) := by
      unfold entsL
      rw [List.getD_eq_getElem?_getD, List.getElem?_map, List.getElem?_range him]
      rfl
    rw [this]
    exact ⟨hi i (by omega) 0 (by omega), hi i (by omega) 1 (by omega), hi i (by omega) 2 (by omega)⟩
end Go.Proofs.Ytcmlcoedgfehgaa
