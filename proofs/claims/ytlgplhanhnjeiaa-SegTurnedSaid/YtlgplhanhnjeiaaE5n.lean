/-
  Layer 1: the document's cross, and who lies on a segment.
-/
import Derived.Test.YtlgplhanhnjeiaaE4n
namespace Go.Proofs.Ytlgplhanhnjeiaa
open Go.RowKit Go.Tab

theorem rcross_eq (ax ay bx b_y cx cy : Int) : ax * b_y - bx * ay + bx * cy - cx * b_y + cx * ay - ax * cy = crossI ax ay bx b_y cx cy := by unfold crossI; grind
theorem rcross_any' (ax ay bx b_y cx cy : Int) (w : World) (ha : mayB ax ay = true) (hb : mayB bx b_y = true) (hc : mayB cx cy = true) :
    Calls Try.prog 20 #[pt ax ay, pt bx b_y, pt cx cy] w (Ret (.int .i64 (crossI ax ay bx b_y cx cy)) w) := by
  rw [← rcross_eq]; exact rcross_any _ _ _ _ _ _ w ha hb hc

set_option maxHeartbeats 800000 in
theorem ron_any (ax ay bx b_y px py : Int) (w : World) (ha : mayB ax ay = true) (hb : mayB bx b_y = true) (hc : mayB px py = true) :
    Calls Try.prog 25 #[pt ax ay, pt bx b_y, pt px py] w (Ret (.bool (ronB ax ay bx b_y px py)) w) := by
  have Hcr := Lib.hid (fun w => rcross_any' ax ay bx b_y px py w ha hb hc)
  obtain ⟨a1, a2, a3, a4⟩ := mayB_iff.1 ha
  obtain ⟨b1, b2, b3, b4⟩ := mayB_iff.1 hb
  obtain ⟨c1, c2, c3, c4⟩ := mayB_iff.1 hc
  clear ha hb hc
  by_cases heq : ax = bx ∧ ay = b_y
  · obtain ⟨rfl, rfl⟩ := heq
    go_enter Try.func25, Try.ntmps25
    go_wp2_with fail
    all_goals
      go_ret
      exact ⟨ret_bool (by unfold ronB; rw [if_pos ⟨rfl, rfl⟩]; first | (rw [eq_comm, decide_eq_true_iff]; omega) | (rw [eq_comm, decide_eq_false_iff_not]; omega) | (rw [Bool.eq_iff_iff]; simp; try omega)), (((Grows.refl w).al _).al _).al _⟩
  · have Hv : Hid (ronB ax ay bx b_y px py = (decide (crossI ax ay bx b_y px py = 0) && decide (0 ≤ (px - ax) * (bx - ax) + (py - ay) * (b_y - ay)) && decide ((px - ax) * (bx - ax) + (py - ay) * (b_y - ay) ≤ (bx - ax) * (bx - ax) + (b_y - ay) * (b_y - ay)))) := by
      unfold ronB; rw [if_neg heq]; rfl
    obtain ⟨p1, q1⟩ := @mul_bd (px - ax) (bx - ax) 33554432 33554432 (by omega) (by omega) (by omega) (by omega)
    obtain ⟨p2, q2⟩ := @mul_bd (py - ay) (b_y - ay) 33554432 33554432 (by omega) (by omega) (by omega) (by omega)
    obtain ⟨p3, q3⟩ := @mul_bd (bx - ax) (bx - ax) 33554432 33554432 (by omega) (by omega) (by omega) (by omega)
    obtain ⟨p4, q4⟩ := @mul_bd (b_y - ay) (b_y - ay) 33554432 33554432 (by omega) (by omega) (by omega) (by omega)
    generalize ronB ax ay bx b_y px py = res at Hv ⊢
    generalize crossI ax ay bx b_y px py = n at Hv Hcr
    have heq' : ¬ ax = bx ∨ (ax = bx ∧ ¬ ay = b_y) := by omega
    clear heq
    rcases heq' with hx | ⟨rfl, hx⟩
    all_goals
      go_enter Try.func25, Try.ntmps25
      go_wp2_with fail
      refine (Hcr.out _).mono ?_
      rintro e w' ⟨rfl, hg⟩
      have Hg := Lib.hid hg
      clear hg
      go_wp2
      all_goals
        go_ret
        exact ⟨ret_bool (by rw [Hv.out]; rw [Bool.eq_iff_iff]; simp; try omega), ((((Grows.refl w).al _).al _).al _).trans Hg.out⟩

end Go.Proofs.Ytlgplhanhnjeiaa
