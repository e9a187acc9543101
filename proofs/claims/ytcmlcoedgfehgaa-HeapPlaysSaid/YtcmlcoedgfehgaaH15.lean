/-
  Layer 5: the chapter's example.
-/
import Derived.Test.YtcmlcoedgfehgaaH14
namespace Go.Proofs.Ytcmlcoedgfehgaa
open Go.RowKit Go.Tab Go.WideShapes

theorem push3 : pushF [] [(2, 0, 0), (1, 5, 0), (1, 4, 9)] = [(1, 4, 9), (2, 0, 0), (1, 5, 0)] := by
  have a1 : addF [] (2, 0, 0) = [(2, 0, 0)] := by unfold addF; rw [show ([] : List Ent3).length = 0 from rfl, riseF_zero]; rfl
  have a2 : addF [(2, 0, 0)] (1, 5, 0) = [(1, 5, 0), (2, 0, 0)] := by
    unfold addF
    rw [show ([(2, 0, 0)] : List Ent3).length = 1 from rfl, riseF_yes (by decide) (by decide), show (1 - 1) / 2 = 0 from rfl, riseF_zero]
    decide
  have a3 : addF [(1, 5, 0), (2, 0, 0)] (1, 4, 9) = [(1, 4, 9), (2, 0, 0), (1, 5, 0)] := by
    unfold addF
    rw [show ([(1, 5, 0), (2, 0, 0)] : List Ent3).length = 2 from rfl, riseF_yes (by decide) (by decide), show (2 - 1) / 2 = 0 from rfl, riseF_zero]
    decide
  show addF (addF (addF [] (2, 0, 0)) (1, 5, 0)) (1, 4, 9) = _
  rw [a1, a2, a3]

set_option maxRecDepth 100000 in
set_option maxHeartbeats 2000000 in
theorem kn_any (w : World) : Calls Try.prog 17 #[] w (Ret (.bool true) w) := by
  have H0 : Hid (HeapAt (w.alloc (.cells #[.slice none 0 0] 27)) w.heap.size w.heap.size (.slice none 0 0) []) := Lib.hid
    ⟨heap_new _ _ _ rfl, ⟨rfl, .inl ⟨rfl, rfl⟩⟩, (fun h => by cases h), by simp only [World.size_alloc]; omega⟩
  go_enter Try.func17, Try.ntmps17
  go_wp2_with fail
  refine (push_heap (H0.out.grows ((Grows.refl _).al _)) _ [(2, 0, 0), (1, 5, 0), (1, 4, 9)] (ents_block (heap_new _ _ _ (by simp only [World.size_alloc])) rfl (by decide)) (.inr fun b hb => by cases hb; exact ⟨by simp only [World.size_alloc]; omega, fun h => by cases h⟩) (by decide)).mono ?_
  rw [push3]
  rintro _ w1 ⟨rfl, v1, h1, s1⟩
  have G1 : Hid (Grows w w1) := Lib.hid (s1.below (((Grows.refl w).al _).al _) (Nat.le_refl _) (fun g hg => by cases hg))
  have H1 := Lib.hid h1
  clear h1 s1 H0
  go_wp2_with fail
  refine (pop_heap H1.out (by decide)).mono ?_
  rintro _ w2 ⟨rfl, v2, h2, s2⟩
  have G2 : Hid (Grows w w2) := Lib.hid (s2.below G1.out (Nat.le_refl _) (fun g hg => (own_lt H1.out.own hg).1))
  rw [show topV [(1, 4, 9), (2, 0, 0), (1, 5, 0)] = .tuple #[en (1, 4, 9), .bool true] from rfl]
  clear h2 s2 H1 G1
  go_wp2
  go_ret
  exact ⟨rfl, G2.out.al _⟩
end Go.Proofs.Ytcmlcoedgfehgaa
