/-
  Layer 4: sorting, more (pure).
-/
import Derived.Test.YtigbojdnaeaojaaO1
namespace Go.Proofs.Ytigbojdnaeaojaa
section
variable {α : Type}

theorem sortF_perm (R : α → α → Bool) : ∀ (n : Nat) (l : List α), l.length ≤ n → (sortF R l).Perm l
  | n, l, hn => by
    by_cases h : l.length < 2
    · rw [sortF_few h]
    · cases n with
      | zero => omega
      | succ n =>
        rw [sortF_many h]
        have h1 := sortF_perm R n (l.take (l.length / 2)) (by rw [List.length_take]; omega)
        have h2 := sortF_perm R n (l.drop (l.length / 2)) (by rw [List.length_drop]; omega)
        refine (mergeF_perm R _ _).trans ((h1.append h2).trans ?_)
        rw [List.take_append_drop]
theorem sortF_length (R : α → α → Bool) (l : List α) : (sortF R l).length = l.length := (sortF_perm R _ l (Nat.le_refl _)).length_eq
theorem sortF_mem (R : α → α → Bool) (l : List α) (x : α) : x ∈ sortF R l ↔ x ∈ l := (sortF_perm R _ l (Nat.le_refl _)).mem_iff
end
end Go.Proofs.Ytigbojdnaeaojaa
