/-
  Layer 1: who lies on a segment, and within a triangle: the walks.
-/
import Derived.Test.YtlgplhanhnjeiaaE3n
namespace Go.Proofs.Ytlgplhanhnjeiaa
open Go.RowKit Go.Tab

def onP (ax ay bx b_y px py : Int) : Bool := mayB ax ay && mayB bx b_y && mayB px py && onB ax ay bx b_y px py

set_option maxHeartbeats 400000 in
theorem on_no (ax ay bx b_y px py : Int) (w : World) (h : (mayB ax ay && mayB bx b_y && mayB px py) = false) :
    Calls Try.prog 24 #[pt ax ay, pt bx b_y, pt px py] w (Ret (.bool false) w) := by
  have HR := Lib.hid ((right3 ax ay bx b_y px py).trans h)
  clear h
  go_enter Try.func24, Try.ntmps24
  go_wp2_with fail
  refine (right_any _ [(ax, ay), (bx, b_y), (px, py)] _ (ptsAt3 (heap_new _ _ _ (by simp)))).mono ?_
  rintro e w' ⟨rfl, hg⟩
  rw [HR.out]
  have Hg := Lib.hid hg
  clear hg
  go_wp2
  go_ret
  exact ⟨rfl, ((((((Grows.refl w).al _).al _).al _).al _).trans Hg.out)⟩

set_option maxHeartbeats 400000 in
theorem on_same (ax ay px py : Int) (w : World) (h : (mayB ax ay && mayB ax ay && mayB px py) = true) :
    Calls Try.prog 24 #[pt ax ay, pt ax ay, pt px py] w (Ret (.bool (onB ax ay ax ay px py)) w) := by
  have HR := Lib.hid ((right3 ax ay ax ay px py).trans h)
  clear h
  go_enter Try.func24, Try.ntmps24
  go_wp2_with fail
  refine (right_any _ [(ax, ay), (ax, ay), (px, py)] _ (ptsAt3 (heap_new _ _ _ (by simp)))).mono ?_
  rintro e w' ⟨rfl, hg⟩
  rw [HR.out]
  have g0 := ((Grows.refl _).al _).trans hg
  obtain ⟨c1, c2, c3, c4, c5, c6⟩ := box3 g0
  have G0 := Lib.hid g0
  clear hg g0
  go_wp2
  all_goals
    go_ret
    exact ⟨ret_bool (by unfold onB; rw [if_pos ⟨rfl, rfl⟩]; first | (rw [eq_comm, decide_eq_true_iff]; omega) | (rw [eq_comm, decide_eq_false_iff_not]; omega) | (rw [Bool.eq_iff_iff]; simp; try omega)), ((((Grows.refl w).al _).al _).al _).trans G0.out⟩

set_option maxHeartbeats 800000 in
theorem on_ne (ax ay bx b_y px py n : Int) (t1 t2 : Bool) (w : World) (HR : Hid (rightB [(ax, ay), (bx, b_y), (px, py)] = true)) (hx : ¬ ax = bx ∨ (ax = bx ∧ ¬ ay = b_y))
    (Hcr : Hid (∀ w, Calls Try.prog 35 #[pt ax ay, pt bx b_y, pt px py] w (Ret (.int .i64 n) w)))
    (Hb1 : Hid (∀ w, Calls Try.prog 38 #[.int .i64 ax, .int .i64 bx, .int .i64 px] w (Ret (.bool t1) w)))
    (Hb2 : Hid (∀ w, Calls Try.prog 38 #[.int .i64 ay, .int .i64 b_y, .int .i64 py] w (Ret (.bool t2) w))) :
    Calls Try.prog 24 #[pt ax ay, pt bx b_y, pt px py] w (Ret (.bool (decide (n = 0) && t1 && t2)) w) := by
  rcases hx with hx | ⟨rfl, hx⟩
  all_goals
    go_enter Try.func24, Try.ntmps24
    go_wp2_with fail
    refine (right_any _ [(ax, ay), (_, b_y), (px, py)] _ (ptsAt3 (heap_new _ _ _ (by simp)))).mono ?_
    rintro e w' ⟨rfl, hg⟩
    rw [HR.out]
    have g0 := ((Grows.refl _).al _).trans hg
    obtain ⟨c1, c2, c3, c4, c5, c6⟩ := box3 g0
    have G0 := Lib.hid g0
    clear hg g0
    go_wp2_with fail
    refine (Hcr.out _).mono ?_
    rintro e w1 ⟨rfl, hg1⟩
    clear c1 c2 c3 c4 c5 c6
    have g1 := G0.out.trans hg1
    obtain ⟨c1, c2, c3, c4, c5, c6⟩ := box3 g1
    have G1 := Lib.hid g1
    clear hg1 g1 G0
    by_cases hn : n = 0
    · obtain rfl : 0 = n := hn.symm
      clear hn
      go_wp2_with fail
      refine (Hb1.out _).mono ?_
      rintro e w2 ⟨rfl, hg2⟩
      clear c1 c2 c3 c4 c5 c6
      have g2 := G1.out.trans hg2
      obtain ⟨c1, c2, c3, c4, c5, c6⟩ := box3 g2
      have G2 := Lib.hid g2
      clear hg2 g2 G1
      cases t1
      · go_wp2
        go_ret
        exact ⟨rfl, ((((Grows.refl w).al _).al _).al _).trans G2.out⟩
      · go_wp2_with fail
        refine (Hb2.out _).mono ?_
        rintro e w3 ⟨rfl, hg3⟩
        have G3 := Lib.hid (G2.out.trans hg3)
        clear hg3 G2 c1 c2 c3 c4 c5 c6
        go_wp2
        go_ret
        exact ⟨rfl, ((((Grows.refl w).al _).al _).al _).trans G3.out⟩
    · go_wp2
      go_ret
      exact ⟨ret_bool (by simp [hn]), ((((Grows.refl w).al _).al _).al _).trans G1.out⟩

theorem on_any (ax ay bx b_y px py : Int) (w : World) : Calls Try.prog 24 #[pt ax ay, pt bx b_y, pt px py] w (Ret (.bool (onP ax ay bx b_y px py)) w) := by
  cases h : (mayB ax ay && mayB bx b_y && mayB px py) with
  | false =>
    have := on_no ax ay bx b_y px py w h
    unfold onP; rw [h]; exact this
  | true =>
    have e : onP ax ay bx b_y px py = onB ax ay bx b_y px py := by unfold onP; rw [h]; rfl
    rw [e]
    by_cases heq : ax = bx ∧ ay = b_y
    · obtain ⟨rfl, rfl⟩ := heq
      exact on_same ax ay px py w h
    · have hcr : ∀ w, Calls Try.prog 35 #[pt ax ay, pt bx b_y, pt px py] w (Ret (.int .i64 (crossI ax ay bx b_y px py)) w) := fun w => by
        have := cross_any ax ay bx b_y px py w
        unfold crossP at this
        rwa [if_pos h] at this
      have := on_ne ax ay bx b_y px py _ _ _ w (Lib.hid ((right3 ax ay bx b_y px py).trans h)) (by omega) (Lib.hid hcr) (Lib.hid (between_any ax bx px)) (Lib.hid (between_any ay b_y py))
      unfold onB
      rw [if_neg heq]
      exact this
end Go.Proofs.Ytlgplhanhnjeiaa
