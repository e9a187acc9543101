/-
  The law on quotients.
-/
import Derived.Test.YtkedcaplbdhmeaaE8
import Derived.Test.YtkedcaplbdhmeaaE2
namespace Go.Proofs.Ytkedcaplbdhmeaa
open Go.RowKit Go.Tab

theorem kn_any (w : World) : Calls Try.prog 12 #[] w (Ret (.bool true) w) :=
  known_any w fun w => by
    have := cross_any 0 0 4 0 0 3 w
    rwa [show crossP 0 0 4 0 0 3 = 12 by decide] at this

set_option maxHeartbeats 4000000 in
theorem law_rounds_core (n d v s q r x : Int) (ok has : Bool) (w : World)
    (hok : (ok = true ∧ 1 ≤ d ∧ d ≤ 1152921504606846976 ∧ -1152921504606846976 ≤ n ∧ n ≤ 1152921504606846976) ∨
      (ok = false ∧ q = 0 ∧ r = 0 ∧ (d < 1 ∨ (1 ≤ d ∧ 1152921504606846976 < d) ∨ (1 ≤ d ∧ d ≤ 1152921504606846976 ∧ n < -1152921504606846976) ∨ (1 ≤ d ∧ d ≤ 1152921504606846976 ∧ -1152921504606846976 ≤ n ∧ 1152921504606846976 < n))))
    (hhas : (has = true ∧ 0 ≤ s ∧ s ≤ 20 ∧ -16777216 ≤ v ∧ v ≤ 16777216) ∨
      (has = false ∧ x = 0 ∧ (s < 0 ∨ (0 ≤ s ∧ 20 < s) ∨ (0 ≤ s ∧ s ≤ 20 ∧ v < -16777216) ∨ (0 ≤ s ∧ s ≤ 20 ∧ -16777216 ≤ v ∧ 16777216 < v))))
    (H1 : Hid (∀ w, Calls Try.prog 26 #[.int .i64 n, .int .i64 d] w (Ret (pair q ok) w)))
    (H2 : Hid (∀ w, Calls Try.prog 27 #[.int .i64 n, .int .i64 d] w (Ret (pair r ok) w)))
    (H3 : Hid (ok = true → ∀ w, Calls Try.prog 28 #[.int .i64 n, .int .i64 d] w (Ret (.int .i64 q) w)))
    (H4 : Hid (ok = true → ∀ w, Calls Try.prog 29 #[.int .i64 n, .int .i64 d] w (Ret (.int .i64 r) w)))
    (H5 : Hid (∀ w, Calls Try.prog 30 #[.int .i64 v, .int .i64 s] w (Ret (pair x has) w)))
    (H6 : Hid (has = true → ∃ p : Int, (∀ w, Calls Try.prog 31 #[.int .i64 s] w (Ret (.int .i64 p) w)) ∧ ∀ w, Calls Try.prog 29 #[.int .i64 v, .int .i64 p] w (Ret (.int .i64 x) w))) :
    Calls Try.prog 6 #[.int .i64 n, .int .i64 d, .int .i64 v, .int .i64 s] w (Ret (.bool true) w) := by
  rcases hok with ⟨rfl, a1, a2, a3, a4⟩ | ⟨rfl, rfl, rfl, hno⟩
  · rcases hhas with ⟨rfl, b1, b2, b3, b4⟩ | ⟨rfl, rfl, hno⟩
    · obtain ⟨p, H7, H8⟩ := H6.out rfl
      have H7 := Lib.hid H7
      have H8 := Lib.hid H8
      go_enter Try.func6, Try.ntmps6
      go_wp2_with fail
      refine (H1.out _).mono ?_
      rintro e w1 ⟨rfl, hg⟩
      have G1 := Lib.hid hg
      clear hg
      go_wp2_with fail
      refine (H2.out _).mono ?_
      rintro e w2 ⟨rfl, hg⟩
      have G2 := Lib.hid (G1.out.trans hg)
      clear hg
      go_wp2_with fail
      refine (H3.out (by simp) _).mono ?_
      rintro e w3 ⟨rfl, hg⟩
      have G3 := Lib.hid (G2.out.trans hg)
      clear hg
      go_wp2_with fail
      refine (H4.out (by simp) _).mono ?_
      rintro e w4 ⟨rfl, hg⟩
      have G4 := Lib.hid (G3.out.trans hg)
      clear hg
      go_wp2_with fail
      refine (H5.out _).mono ?_
      rintro e w5 ⟨rfl, hg⟩
      have G5 := Lib.hid (G4.out.trans hg)
      clear hg
      go_wp2_with fail
      refine (H7.out _).mono ?_
      rintro e w6 ⟨rfl, hg⟩
      have G6 := Lib.hid (G5.out.trans hg)
      clear hg
      go_wp2_with fail
      refine (H8.out _).mono ?_
      rintro e w7 ⟨rfl, hg⟩
      have G7 := Lib.hid (G6.out.trans hg)
      clear hg
      go_wp2_with fail
      refine (kn_any _).mono ?_
      rintro e w8 ⟨rfl, hg⟩
      have G8 := Lib.hid (G7.out.trans hg)
      clear hg
      go_wp2
      go_ret
      exact ⟨rfl, G8.out⟩
    · rcases hno with h | ⟨h1, h2⟩ | ⟨h1, h2, h3⟩ | ⟨h1, h2, h3, h4⟩
      all_goals
        go_enter Try.func6, Try.ntmps6
        go_wp2_with fail
        refine (H1.out _).mono ?_
        rintro e w1 ⟨rfl, hg⟩
        have G1 := Lib.hid hg
        clear hg
        go_wp2_with fail
        refine (H2.out _).mono ?_
        rintro e w2 ⟨rfl, hg⟩
        have G2 := Lib.hid (G1.out.trans hg)
        clear hg
        go_wp2_with fail
        refine (H3.out (by simp) _).mono ?_
        rintro e w3 ⟨rfl, hg⟩
        have G3 := Lib.hid (G2.out.trans hg)
        clear hg
        go_wp2_with fail
        refine (H4.out (by simp) _).mono ?_
        rintro e w4 ⟨rfl, hg⟩
        have G4 := Lib.hid (G3.out.trans hg)
        clear hg
        go_wp2_with fail
        refine (H5.out _).mono ?_
        rintro e w5 ⟨rfl, hg⟩
        have G5 := Lib.hid (G4.out.trans hg)
        clear hg
        go_wp2_with fail
        refine (kn_any _).mono ?_
        rintro e w6 ⟨rfl, hg⟩
        have G6 := Lib.hid (G5.out.trans hg)
        clear hg
        go_wp2
        go_ret
        exact ⟨ret_bool (by first | rfl | (simp; omega)), G6.out⟩
  · rcases hhas with ⟨rfl, b1, b2, b3, b4⟩ | ⟨rfl, rfl, hno'⟩
    · obtain ⟨p, H7, H8⟩ := H6.out rfl
      have H7 := Lib.hid H7
      have H8 := Lib.hid H8
      rcases hno with h | ⟨h1, h2⟩ | ⟨h1, h2, h3⟩ | ⟨h1, h2, h3, h4⟩
      all_goals
        go_enter Try.func6, Try.ntmps6
        go_wp2_with fail
        refine (H1.out _).mono ?_
        rintro e w1 ⟨rfl, hg⟩
        have G1 := Lib.hid hg
        clear hg
        go_wp2_with fail
        refine (H2.out _).mono ?_
        rintro e w2 ⟨rfl, hg⟩
        have G2 := Lib.hid (G1.out.trans hg)
        clear hg
        go_wp2_with fail
        refine (H5.out _).mono ?_
        rintro e w5 ⟨rfl, hg⟩
        have G5 := Lib.hid (G2.out.trans hg)
        clear hg
        go_wp2_with fail
        refine (H7.out _).mono ?_
        rintro e w6 ⟨rfl, hg⟩
        have G6 := Lib.hid (G5.out.trans hg)
        clear hg
        go_wp2_with fail
        refine (H8.out _).mono ?_
        rintro e w7 ⟨rfl, hg⟩
        have G7 := Lib.hid (G6.out.trans hg)
        clear hg
        go_wp2_with fail
        refine (kn_any _).mono ?_
        rintro e w8 ⟨rfl, hg⟩
        have G8 := Lib.hid (G7.out.trans hg)
        clear hg
        go_wp2
        go_ret
        exact ⟨rfl, G8.out⟩
    · rcases hno with h | ⟨h1, h2⟩ | ⟨h1, h2, h3⟩ | ⟨h1, h2, h3, h4⟩ <;> rcases hno' with k | ⟨k1, k2⟩ | ⟨k1, k2, k3⟩ | ⟨k1, k2, k3, k4⟩
      all_goals
        go_enter Try.func6, Try.ntmps6
        go_wp2_with fail
        refine (H1.out _).mono ?_
        rintro e w1 ⟨rfl, hg⟩
        have G1 := Lib.hid hg
        clear hg
        go_wp2_with fail
        refine (H2.out _).mono ?_
        rintro e w2 ⟨rfl, hg⟩
        have G2 := Lib.hid (G1.out.trans hg)
        clear hg
        go_wp2_with fail
        refine (H5.out _).mono ?_
        rintro e w5 ⟨rfl, hg⟩
        have G5 := Lib.hid (G2.out.trans hg)
        clear hg
        go_wp2_with fail
        refine (kn_any _).mono ?_
        rintro e w6 ⟨rfl, hg⟩
        have G6 := Lib.hid (G5.out.trans hg)
        clear hg
        go_wp2
        go_ret
        exact ⟨ret_bool (by first | rfl | (simp; omega)), G6.out⟩

theorem law_rounds (n d v s : Int) (w : World) : Calls Try.prog 6 #[.int .i64 n, .int .i64 d, .int .i64 v, .int .i64 s] w (Ret (.bool true) w) := by
  refine law_rounds_core n d v s (floorP n d) (roundP n d) (shiftP v s) (divB n d) (mayS v s) w ?_ ?_ (Lib.hid (Floor_any n d)) (Lib.hid (Round_any n d)) (Lib.hid ?_) (Lib.hid ?_) (Lib.hid (Shift_any v s)) (Lib.hid ?_)
  · cases h : divB n d with
    | true => exact .inl ⟨rfl, divB_iff.1 h⟩
    | false =>
      refine .inr ⟨rfl, by unfold floorP; rw [h]; rfl, by unfold roundP; rw [h]; rfl, ?_⟩
      have : ¬ (1 ≤ d ∧ d ≤ 1152921504606846976 ∧ -1152921504606846976 ≤ n ∧ n ≤ 1152921504606846976) := fun hh => by rw [divB_iff.2 hh] at h; cases h
      omega
  · cases h : mayS v s with
    | true => exact .inl ⟨rfl, mayS_iff.1 h⟩
    | false =>
      refine .inr ⟨rfl, by unfold shiftP; rw [h]; rfl, ?_⟩
      have : ¬ (0 ≤ s ∧ s ≤ 20 ∧ -16777216 ≤ v ∧ v ≤ 16777216) := fun hh => by rw [mayS_iff.2 hh] at h; cases h
      omega
  · intro h w; unfold floorP; rw [if_pos h]; exact rfloor_any n d w h
  · intro h w; unfold roundP; rw [if_pos h]; exact rround_any n d w h
  · intro h
    obtain ⟨a1, a2, a3, a4⟩ := mayS_iff.1 h
    obtain ⟨k, rfl⟩ := Int.eq_ofNat_of_zero_le a1
    obtain ⟨p1, p2⟩ := powI_bd k (by omega)
    refine ⟨powI k, fun w => rpower_any k w (by omega), fun w => ?_⟩
    unfold shiftP; rw [if_pos h]
    exact rround_any v (powI k) w (divB_iff.2 (by omega))
end Go.Proofs.Ytkedcaplbdhmeaa
