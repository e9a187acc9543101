/-
  Layer 4: points in order (pure).
-/
import Derived.Test.YtigbojdnaeaojaaO18
namespace Go.Proofs.Ytigbojdnaeaojaa
open Go.RowKit Go.Tab

theorem lessP_iff (p q : Int × Int) : lessP p q = true ↔ (p.1 < q.1 ∨ (p.1 = q.1 ∧ p.2 < q.2)) := by
  unfold lessP
  split
  · rename_i h; simp [h]
  · rename_i h; simp [h]
theorem lessP_not (p q : Int × Int) : lessP p q = false ↔ ¬ (p.1 < q.1 ∨ (p.1 = q.1 ∧ p.2 < q.2)) := by
  rw [← lessP_iff, Bool.not_eq_true]
theorem weakP : Weak lessP :=
  ⟨fun x y z h1 h2 => by rw [lessP_iff] at *; omega, fun x y z h => by rw [lessP_iff, lessP_iff]; rw [lessP_iff] at h; omega, fun x => by rw [lessP_not]; omega⟩
theorem lessP_anti {p q : Int × Int} (h1 : lessP p q = false) (h2 : lessP q p = false) : p = q := by
  rw [lessP_not] at h1 h2
  exact Prod.ext (by omega) (by omega)
theorem sorted_unique : ∀ (a b : List (Int × Int)), Rises lessP a → Rises lessP b → a.Perm b → a = b
  | [], b, _, _, h => (List.Perm.nil_eq h)
  | x :: a, [], _, _, h => by have := h.length_eq; simp at this
  | x :: a, y :: b, ha, hb, h => by
    obtain ⟨ha1, ha2⟩ := List.pairwise_cons.1 ha
    obtain ⟨hb1, hb2⟩ := List.pairwise_cons.1 hb
    have hxy : x = y := by
      have h1 : x ∈ y :: b := h.mem_iff.1 List.mem_cons_self
      have h2 : y ∈ x :: a := h.mem_iff.2 List.mem_cons_self
      rcases List.mem_cons.1 h1 with h1 | h1
      · exact h1
      · rcases List.mem_cons.1 h2 with h2 | h2
        · exact h2.symm
        · exact lessP_anti (hb1 x h1) (ha1 y h2)
    subst hxy
    rw [sorted_unique a b ha2 hb2 ((List.perm_cons x).1 h)]
theorem sortP_rises (l : List (Int × Int)) : Rises lessP (sortF lessP l) := by
  rw [sortF_eq weakP _ l (Nat.le_refl _)]
  exact Rises.inserts weakP l [] List.Pairwise.nil
theorem sortP_reverse (l : List (Int × Int)) : sortF lessP l.reverse = sortF lessP l :=
  sorted_unique _ _ (sortP_rises _) (sortP_rises _) (((sortF_perm lessP _ _ (Nat.le_refl _)).trans (List.reverse_perm l)).trans (sortF_perm lessP _ l (Nat.le_refl _)).symm)
theorem Rises.next {l : List (Int × Int)} (h : Rises lessP l) {i : Nat} (hi : i + 1 < l.length) : lessP (l.getD (i + 1) (0, 0)) (l.getD i (0, 0)) = false := by
  rw [List.getD_eq_getElem?_getD, List.getD_eq_getElem?_getD, List.getElem?_eq_getElem hi, List.getElem?_eq_getElem (by omega)]
  exact List.pairwise_iff_getElem.1 h i (i + 1) (by omega) hi (by omega)

def cntP (e : Int × Int) (l : List (Int × Int)) : Nat := l.countP fun q => decide (q = e)
theorem cntP_sort (e : Int × Int) (l : List (Int × Int)) : cntP e (sortF lessP l) = cntP e l := (sortF_perm lessP _ l (Nat.le_refl _)).countP_eq _
theorem cntP_succ (e : Int × Int) (l : List (Int × Int)) (k : Nat) (h : k < l.length) : cntP e (l.take (k + 1)) = cntP e (l.take k) + if l.getD k (0, 0) = e then 1 else 0 := by
  unfold cntP
  rw [List.take_succ_eq_append_getElem h, List.countP_append, List.getD_eq_getElem?_getD, List.getElem?_eq_getElem h]
  simp [List.countP_cons]
theorem cntP_le (e : Int × Int) (l : List (Int × Int)) : cntP e l ≤ l.length := List.countP_le_length
theorem rev_take (l : List (Int × Int)) (k : Nat) (h : k < l.length) : l.reverse.take (k + 1) = l.reverse.take k ++ [l.getD (l.length - 1 - k) (0, 0)] := by
  rw [List.take_succ_eq_append_getElem (by rw [List.length_reverse]; exact h), List.getElem_reverse, List.getD_eq_getElem?_getD, List.getElem?_eq_getElem (by omega)]
  rfl
theorem uniq_merge (n m : List Int) : uniqF (sortF ltI (mergeF ltI (uniqF (sortF ltI n)) (uniqF (sortF ltI m)))) = uniqF (sortF ltI (n ++ m)) := by
  refine strict_ext _ _ (uniqF_strict _ (sort_up _)) (uniqF_strict _ (sort_up _)) fun x => ?_
  rw [uniqF_mem, sortF_mem, (mergeF_perm ltI _ _).mem_iff, List.mem_append, uniqF_mem, uniqF_mem, sortF_mem, sortF_mem, uniqF_mem, sortF_mem, List.mem_append]
end Go.Proofs.Ytigbojdnaeaojaa
