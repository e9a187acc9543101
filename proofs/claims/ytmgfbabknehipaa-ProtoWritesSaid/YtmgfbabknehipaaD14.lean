/-
  Layer 8: all fields of any bytes, as the document reads them.
-/
import Derived.Test.YtmgfbabknehipaaD13
namespace Go.Proofs.Ytmgfbabknehipaa
open Go.RowKit Go.Tab Go.WideShapes

def allFrom (l : List Nat) : Nat → Nat → List Fld → List Fld × Nat × Nat
  | 0, _, acc => (acc, 0, 0)
  | f + 1, p, acc => if l.length ≤ p then (acc, 0, 0) else if (rdF (l.drop p)).2.2 = 0 then allFrom l f (p + (rdF (l.drop p)).2.1) (acc ++ [(rdF (l.drop p)).1]) else ([], p, (rdF (l.drop p)).2.2)
/-- The fields, the place of the first error, the error. -/
def allF (l : List Nat) : List Fld × Nat × Nat := allFrom l l.length 0 []
theorem rdF_size (l : List Nat) (hx : ∀ x ∈ l, x < 256) (h : (rdF l).2.2 = 0) : 1 ≤ (rdF l).2.1 ∧ (rdF l).2.1 ≤ l.length := by
  rcases lk_cases l hx with ⟨e, he, hk⟩ | ⟨num, kind, n, head, size, hk, hG⟩
  · unfold rdF at h ⊢
    rw [hk] at h ⊢
    rw [if_pos (by simpa [bad6] using he)] at h
    exact absurd h (by simpa [bad6] using he)
  · unfold rdF at h ⊢
    rw [hk] at h ⊢
    rw [if_neg (by simp)] at h ⊢
    have := hG.h1
    have := hG.fit
    show 1 ≤ head + size ∧ head + size ≤ l.length
    omega
theorem allFrom_done {l : List Nat} {f p : Nat} {acc : List Fld} (h : l.length ≤ p) : allFrom l f p acc = (acc, 0, 0) := by
  cases f with
  | zero => rfl
  | succ f => unfold allFrom; rw [if_pos h]
theorem allFrom_ok {l : List Nat} {f p : Nat} {acc : List Fld} (h : p < l.length) (hf : l.length - p ≤ f) (hx : ∀ x ∈ l, x < 256) (he : (rdF (l.drop p)).2.2 = 0) :
    ∃ g, l.length - (p + (rdF (l.drop p)).2.1) ≤ g ∧ allFrom l f p acc = allFrom l g (p + (rdF (l.drop p)).2.1) (acc ++ [(rdF (l.drop p)).1]) := by
  obtain ⟨g, rfl⟩ : ∃ g, f = g + 1 := ⟨f - 1, by omega⟩
  have := rdF_size (l.drop p) (fun x h => hx x (List.mem_of_mem_drop h)) he
  refine ⟨g, by omega, ?_⟩
  rw [allFrom, if_neg (by omega), if_pos he]
theorem allFrom_bad {l : List Nat} {f p : Nat} {acc : List Fld} (h : p < l.length) (hf : l.length - p ≤ f) (he : ¬ (rdF (l.drop p)).2.2 = 0) : allFrom l f p acc = ([], p, (rdF (l.drop p)).2.2) := by
  obtain ⟨g, rfl⟩ : ∃ g, f = g + 1 := ⟨f - 1, by omega⟩
  rw [allFrom, if_neg (by omega), if_neg he]
theorem row_four {w : World} {b : Nat} {x y z u : Value} {T : TypeId} (h : w.heap[b]? = some (.cells #[x, y, z, u] T (0, 0))) (h1 : x.oneCell' = true) (h2 : y.oneCell' = true) (h3 : z.oneCell' = true) (h4 : u.oneCell' = true) : RowAt 4 w (.slice (some ⟨b, 0, none⟩) 1 1) 1 [x, y, z, u] := by
  refine ⟨rfl, ?_, .inr ⟨b, 0, 1, rfl, (Array.getElem?_eq_some_iff.1 h).1, fun j v hj => ?_⟩⟩
  · intro v hv
    simp only [List.mem_cons, List.not_mem_nil, or_false] at hv
    rcases hv with rfl | rfl | rfl | rfl <;> assumption
  · obtain ⟨c0, c1, c2, c3⟩ := cells4f h
    match j, hj with
    | 0, hj => cases hj; exact c0
    | 1, hj => cases hj; exact c1
    | 2, hj => cases hj; exact c2
    | 3, hj => cases hj; exact c3
    | j + 4, hj => simp at hj
/-- The call hands back fields, a place, an error. -/
def RetRAll (q : List Fld × Nat × Nat) (w : World) (e : Ending) (w' : World) : Prop := ∃ u, e = .returned (.tuple #[u, .int .i64 (q.2.1 : Int), .int .i64 (q.2.2 : Int)]) ∧ RFldsAt w' u q.1 ∧ Grows w w'

end Go.Proofs.Ytmgfbabknehipaa
