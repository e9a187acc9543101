/-
  Layer 4: what is put in, one by one (pure); rows of rows.
-/
import Derived.Test.YtigbojdnaeaojaaO14
import Derived.Test.YtigbojdnaeaojaaO2p
namespace Go.Proofs.Ytigbojdnaeaojaa
open Go.RowKit Go.Tab
section
variable {α : Type}
def insK (R : α → α → Bool) (l : List α) (k : Nat) : List α := insertsF R [] (l.take k)
theorem i64w (n : Int) : IntKind.i64.wrap n = wrap64 n := by simp [IntKind.wrap, wrap64, IntKind.bits, IntKind.signed]; try omega
theorem insK_zero (R : α → α → Bool) (l : List α) : insK R l 0 = [] := rfl
theorem insK_len (R : α → α → Bool) (l : List α) (k : Nat) (hk : k ≤ l.length) : (insK R l k).length = k := by
  unfold insK
  rw [insertsF_length, List.length_take]
  simp
  omega
theorem insK_succ (R : α → α → Bool) (l : List α) (k : Nat) (hk : k < l.length) : insK R l (k + 1) = mergeF R (insK R l k) [l[k]] := by
  unfold insK
  rw [List.take_succ_eq_append_getElem hk, insertsF_snoc]
theorem insK_rises {R : α → α → Bool} (hR : Weak R) (l : List α) (k : Nat) : Rises R (insK R l k) := Rises.inserts hR _ _ List.Pairwise.nil
theorem insK_mem (R : α → α → Bool) (l : List α) (k : Nat) {x : α} (h : x ∈ insK R l k) : x ∈ l := by
  have h1 := (insertsF_perm R (l.take k) []).mem_iff.1 h
  exact List.mem_of_mem_take (by simpa using h1)
theorem insK_all {R : α → α → Bool} (hR : Weak R) (l : List α) (k : Nat) (hk : l.length ≤ k) : insK R l k = sortF R l := by
  rw [sortF_eq hR _ l (Nat.le_refl _)]
  unfold insK
  rw [List.take_of_length_le hk]
end
theorem ins_put {R : Int → Int → Bool} (D : List Int) (x : Int) (k j : Nat) (hD : D.length = k) (hj : placeF R x D = j) : ((mergeF R D [x]).map iv) = (([] : List Value) ++ (D.take j).map iv ++ [x].map iv ++ (D.drop j).map iv) ∧ k + 1 = 0 + (D.take j).length + [x].length + (D.drop j).length := by
  rw [mergeF_one, hj]
  refine ⟨by simp, ?_⟩
  simp only [List.length_take, List.length_drop, List.length_singleton]
  omega
theorem ins_putP {R : Int × Int → Int × Int → Bool} (D : List (Int × Int)) (x : Int × Int) (k j : Nat) (hD : D.length = k) (hj : placeF R x D = j) : flat (mergeF R D [x]) = (([] : List Value) ++ flat (D.take j) ++ flat [x] ++ flat (D.drop j)) ∧ k + 1 = 0 + (D.take j).length + [x].length + (D.drop j).length := by
  rw [mergeF_one, hj]
  refine ⟨by simp [flat], ?_⟩
  simp only [List.length_take, List.length_drop, List.length_singleton]
  omega
theorem ins_at (R : Int → Int → Bool) (n k : Nat) (h : k ≤ n) : ∀ i, i < k → ∃ m : Nat, m < n ∧ (insK R (idxL n) k).getD i 0 = (m : Int) := by
  intro i hi
  have hl : i < (insK R (idxL n) k).length := by rw [insK_len _ _ _ (by rw [idx_len]; exact h)]; exact hi
  have := insK_mem R (idxL n) k (List.getElem_mem hl)
  obtain ⟨m, hm, e⟩ := idx_mem this
  exact ⟨m, hm, by rw [List.getD_eq_getElem?_getD, List.getElem?_eq_getElem hl]; exact e⟩
theorem idx_get (n k : Nat) (h : k < n) : (idxL n)[k]'(by rw [idx_len]; exact h) = (k : Int) := by simp [idxL]
theorem place_back {α : Type} {R : α → α → Bool} (hR : Weak R) (x d : α) (D : List α) (hD : Rises R D) (k j : Nat) (hk : D.length = k) (hj : j ≤ k) (h1 : ∀ i, j ≤ i → i < k → R x (D.getD i d) = true) (h2 : j = 0 ∨ R x (D.getD (j - 1) d) = false) : placeF R x D = j :=
  placeF_back hR x D hD j (by omega) (fun i hi hji => by
    have := h1 i hji (by omega)
    rwa [List.getD_eq_getElem?_getD, List.getElem?_eq_getElem hi] at this) (fun h => by
    rcases h2 with h2 | h2
    · exact .inl h2
    · right; rwa [List.getD_eq_getElem?_getD, List.getElem?_eq_getElem h] at h2)

end Go.Proofs.Ytigbojdnaeaojaa
