/-
  Layer 7: the number that bytes begin with: the document's reckoning.
-/
import Derived.Test.YtmgfbabknehipaaV5
namespace Go.Proofs.Ytmgfbabknehipaa
open Go.RowKit Go.Tab

theorem val_drop_succ (L : List Nat) (j : Nat) (h : j < L.length) : val (L.drop j) = L.getD j 0 % 128 + 128 * val (L.drop (j + 1)) := by
  rw [List.drop_eq_getElem_cons h, val]
  simp [h]
theorem val_drop_le (L : List Nat) (j : Nat) : val (L.drop j) ≤ val L := by
  induction j with
  | zero => simp
  | succ j ih =>
    by_cases h : j < L.length
    · have := val_drop_succ L j h; omega
    · rw [List.drop_of_length_le (by omega)]; simp [val]
theorem getD_take (l : List Nat) (m j : Nat) (h : j < m) : (l.take m).getD j 0 = l.getD j 0 := by
  rw [List.getD_eq_getElem?_getD, List.getD_eq_getElem?_getD, List.getElem?_take_of_lt h]

end Go.Proofs.Ytmgfbabknehipaa
