/-
  Rows of whole numbers, as the frame opens them (layer 2's IntsAt).
-/
import Derived.Test.YtlgplhanhnjeiaaFr
import Derived.Test.YtlgplhanhnjeiaaIa
namespace Go.Proofs.Ytlgplhanhnjeiaa
open Go.ChangeShapes Go.WideShapes Go.ChangeAt Go.RowKit Go.Tab Go.Joins Go.Deep

def intsL (V : Nat → Int) (m : Nat) : List Int := (List.range m).map V
theorem intsL_len (V : Nat → Int) (m : Nat) : (intsL V m).length = m := by simp [intsL]
theorem ints_key {w : World} {a : Option Addr} {n c : Nat} {V : Nat → Int} (hnc : n ≤ c) (hno : a = none → c = 0)
    (hc : (n = 0) ∨ ∃ b off, a = some ⟨b, off, none⟩ ∧ b < w.heap.size ∧ ∀ i, i < n → w.cell? ⟨b, off + i, none⟩ = some (.int .i64 (V i))) (m : Nat) (hm : m ≤ n) (hm2 : m ≤ 1000) :
    IntsAt w (.slice a m c) (intsL V m) := by
  refine ⟨by rw [intsL_len]; omega, ?_⟩
  rw [intsL_len]
  rcases hc with h0 | ⟨b, off, ha, hb, hi⟩
  · have : m = 0 := by omega
    subst this
    exact .inl ⟨⟨a, c, rfl, hno⟩, rfl⟩
  · refine .inr ⟨b, off, c, by rw [ha], hb, by omega, fun i him => ?_⟩
    have : (intsL V m).getD i 0 = V i := by
      unfold intsL
      rw [List.getD_eq_getElem?_getD, List.getElem?_map, List.getElem?_range him]
      rfl
    rw [this]
    exact hi i (by omega)
end Go.Proofs.Ytlgplhanhnjeiaa
