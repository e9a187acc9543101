/-
  Layer 4: the chapter's examples.
-/
import Derived.Test.YtigbojdnaeaojaaO13
namespace Go.Proofs.Ytigbojdnaeaojaa
open Go.RowKit Go.Tab

theorem cmpL_neg : ∀ (a b c : List Int), cmpL a c < 0 → cmpL a b < 0 ∨ cmpL b c < 0
  | [], [], c, h => .inr h
  | [], _ :: _, _, _ => .inl (by simp [cmpL])
  | _ :: _, _, [], h => by simp [cmpL] at h
  | _ :: _, [], _ :: _, _ => .inr (by simp [cmpL])
  | x :: a, y :: b, z :: c, h => by
    have ih := cmpL_neg a b c
    simp only [cmpL] at h ⊢
    by_cases h1 : x < z
    · by_cases h2 : x < y
      · left; simp [h2]
      · right
        have : y < z := by omega
        simp [this]
    · rw [if_neg h1] at h
      by_cases h2 : z < x
      · simp [h2] at h
      · rw [if_neg h2] at h
        have e : x = z := by omega
        subst e
        by_cases h3 : x < y
        · left; simp [h3]
        · by_cases h4 : y < x
          · right; simp [h4]
          · have e : x = y := by omega
            subst e
            simpa using ih h
theorem cmpL_trans : ∀ (a b c : List Int), cmpL a b < 0 → cmpL b c < 0 → cmpL a c < 0
  | [], _, _ :: _, _, _ => by simp [cmpL]
  | a, [], [], h, h2 => by simp [cmpL] at h2
  | a, _ :: _, [], h, h2 => by simp [cmpL] at h2
  | _ :: _, [], _ :: _, h, _ => by simp [cmpL] at h
  | x :: a, y :: b, z :: c, h, h' => by
    have ih := cmpL_trans a b c
    simp only [cmpL] at h h' ⊢
    by_cases h1 : x < y
    · by_cases h2 : y < z
      · have : x < z := by omega
        simp [this]
      · rw [if_neg h2] at h'
        by_cases h3 : z < y
        · simp [h3] at h'
        · have : x < z := by omega
          simp [this]
    · rw [if_neg h1] at h
      by_cases h2 : y < x
      · simp [h2] at h
      · rw [if_neg h2] at h
        have e : x = y := by omega
        subst e
        by_cases h3 : x < z
        · simp [h3]
        · rw [if_neg h3] at h' ⊢
          by_cases h4 : z < x
          · simp [h4] at h'
          · rw [if_neg h4] at h' ⊢
            exact ih h h'
theorem weakRow (L : List (List Int)) : Weak (rowR L) :=
  ⟨fun x y z h1 h2 => decide_eq_true (cmpL_trans _ _ _ (of_decide_eq_true h1) (of_decide_eq_true h2)),
   fun x y z h => by
    rcases cmpL_neg _ (L.getD y.toNat []) _ (of_decide_eq_true h) with h | h
    · exact .inl (decide_eq_true h)
    · exact .inr (decide_eq_true h),
   fun x => decide_eq_false (by rw [cmpL_zero.2 rfl]; decide)⟩

theorem rows_four : sortF (rowR [[2], [1, 9], [1], []]) (idxL 4) = [3, 2, 1, 0] := by
  rw [sortF_eq (weakRow _) 4 _ (by decide)]
  have h : ∀ x y : Int, rowR [[2], [1, 9], [1], []] x y = decide (cmpL (List.getD [[2], [1, 9], [1], []] x.toNat []) (List.getD [[2], [1, 9], [1], []] y.toNat []) < 0) := fun _ _ => rfl
  simp [insertsF, mergeF, idxL, List.range, List.range.loop, h, cmpL]

theorem rows_at4 (w : World) : RowsAt ((((w.alloc (.cells #[iv 2] 3)).alloc (.cells #[iv 1, iv 9] 3)).alloc (.cells #[iv 1] 3)).alloc (.cells #[.slice (some ⟨w.heap.size, 0, none⟩) 1 1, .slice (some ⟨w.heap.size + 1, 0, none⟩) 2 2, .slice (some ⟨w.heap.size + 1 + 1, 0, none⟩) 1 1, .slice none 0 0] 24))
    (.slice (some ⟨w.heap.size + 1 + 1 + 1, 0, none⟩) 4 4) [[2], [1, 9], [1], []] := by
  have b1 := heap_new w (.cells #[iv 2] 3) _ rfl
  have b2 := heap_new (w.alloc (.cells #[iv 2] 3)) (.cells #[iv 1, iv 9] 3) (w.heap.size + 1) (by simp only [World.size_alloc])
  have b3 := heap_new ((w.alloc (.cells #[iv 2] 3)).alloc (.cells #[iv 1, iv 9] 3)) (.cells #[iv 1] 3) (w.heap.size + 1 + 1) (by simp only [World.size_alloc])
  have b4 := heap_new (((w.alloc (.cells #[iv 2] 3)).alloc (.cells #[iv 1, iv 9] 3)).alloc (.cells #[iv 1] 3)) (.cells #[.slice (some ⟨w.heap.size, 0, none⟩) 1 1, .slice (some ⟨w.heap.size + 1, 0, none⟩) 2 2, .slice (some ⟨w.heap.size + 1 + 1, 0, none⟩) 1 1, .slice none 0 0] 24) (w.heap.size + 1 + 1 + 1) (by simp only [World.size_alloc])
  have i1 := (ints_block (l := [2]) b1 rfl (by decide)).grows ((((Grows.refl _).al (.cells #[iv 1, iv 9] 3)).al (.cells #[iv 1] 3)).al (.cells #[.slice (some ⟨w.heap.size, 0, none⟩) 1 1, .slice (some ⟨w.heap.size + 1, 0, none⟩) 2 2, .slice (some ⟨w.heap.size + 1 + 1, 0, none⟩) 1 1, .slice none 0 0] 24))
  have i2 := (ints_block (l := [1, 9]) b2 rfl (by decide)).grows (((Grows.refl _).al (.cells #[iv 1] 3)).al (.cells #[.slice (some ⟨w.heap.size, 0, none⟩) 1 1, .slice (some ⟨w.heap.size + 1, 0, none⟩) 2 2, .slice (some ⟨w.heap.size + 1 + 1, 0, none⟩) 1 1, .slice none 0 0] 24))
  have i3 := (ints_block (l := [1]) b3 rfl (by decide)).grows ((Grows.refl _).al (.cells #[.slice (some ⟨w.heap.size, 0, none⟩) 1 1, .slice (some ⟨w.heap.size + 1, 0, none⟩) 2 2, .slice (some ⟨w.heap.size + 1 + 1, 0, none⟩) 1 1, .slice none 0 0] 24))
  refine ⟨by decide, .inr ⟨_, 0, 4, rfl, (Array.getElem?_eq_some_iff.1 b4).1, Nat.le_refl _, fun i hi => ?_⟩⟩
  match i, hi with
  | 0, _ => exact ⟨_, cell_of_row _ _ 0 _ _ (0, 0) b4, i1⟩
  | 1, _ => exact ⟨_, cell_of_row _ _ 1 _ _ (0, 0) b4, i2⟩
  | 2, _ => exact ⟨_, cell_of_row _ _ 2 _ _ (0, 0) b4, i3⟩
  | 3, _ => exact ⟨_, cell_of_row _ _ 3 _ _ (0, 0) b4, ints_nil _⟩

theorem up48 : Up [4, 8] := by simp [Up]

set_option maxRecDepth 100000 in
set_option maxHeartbeats 1000000 in
theorem kn_any (w : World) : Calls Try.prog 9 #[] w (Ret (.bool true) w) := by
  have R4 := Lib.hid (rows_any _ _ _ (rows_at4 w))
  go_enter Try.func9, Try.ntmps9
  go_wp2_with fail
  refine R4.out.mono ?_
  rintro _ w1 ⟨v, rfl, hv, hg⟩
  rw [show ([[2], [1, 9], [1], []] : List (List Int)).length = 4 from rfl, rows_four] at hv
  obtain ⟨_, ⟨_, h0⟩ | ⟨g, cp, cur, rfl, hgb, hh, hnc, hm, hs, ht⟩⟩ := hv
  · cases h0
  have I1 : Hid (IntsAt w1 (.slice (some ⟨g, 0, none⟩) 4 cp) [3, 2, 1, 0]) := Lib.hid (own_ints (base := 0) (E := 3) ⟨rfl, .inr ⟨g, cp, cur, rfl, Nat.zero_le _, hh, hnc, hm, hs, ht⟩⟩ rfl (by decide))
  have G1 := Lib.hid ((((((Grows.refl w).al _).al _).al _).al _).trans hg)
  clear hg R4 hh hs ht hm hgb
  go_wp2_with fail
  refine (strips_any _ [4, 8] 4 _ (ints_block (l := [4, 8]) (heap_new _ (.cells #[iv 4, iv 8] 3) _ rfl) rfl (by decide)) (by decide) up48).mono ?_
  rw [show lowF 4 [4, 8] = 0 by decide, show uppF 4 [4, 8] = 1 by decide]
  rintro _ w2 ⟨rfl, hg⟩
  have I2 := Lib.hid (I1.out.grows (((Grows.refl _).al _).trans hg))
  have G2 := Lib.hid ((G1.out.al _).trans hg)
  clear hg I1 G1
  have c0 := I2.out.at_cell (i := 0) (by decide)
  have c3 := I2.out.at_cell (i := 3) (by decide)
  simp only [Nat.zero_add, Nat.add_zero] at c0 c3
  have c0' : w2.cell? ⟨g, 0, none⟩ = some (iv 3) := c0
  have c3' : w2.cell? ⟨g, 3, none⟩ = some (iv 0) := c3
  clear c0 c3
  go_wp2_with fail
  refine (common_any _ [4, 8] 4 8 _ (ints_block (l := [4, 8]) (heap_new _ (.cells #[iv 4, iv 8] 3) _ rfl) rfl (by decide)) (by decide) up48).mono ?_
  rw [show commonF [4, 8] 4 8 = true by decide]
  rintro _ w3 ⟨rfl, hg⟩
  have G3 := Lib.hid ((G2.out.al _).trans hg)
  clear hg G2 c0' c3' I2
  go_wp2_with fail
  refine (common_any _ [4, 8] 3 5 _ (ints_block (l := [4, 8]) (heap_new _ (.cells #[iv 4, iv 8] 3) _ rfl) rfl (by decide)) (by decide) up48).mono ?_
  rw [show commonF [4, 8] 3 5 = false by decide]
  rintro _ w4 ⟨rfl, hg⟩
  have G4 := Lib.hid ((G3.out.al _).trans hg)
  clear hg G3
  go_wp2
  go_ret
  exact ⟨rfl, G4.out⟩
end Go.Proofs.Ytigbojdnaeaojaa
