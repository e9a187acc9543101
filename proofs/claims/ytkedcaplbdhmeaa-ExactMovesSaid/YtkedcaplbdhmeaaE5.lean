/-
  Layer 1: within a triangle: the walks.
-/
import Derived.Test.YtkedcaplbdhmeaaE4
namespace Go.Proofs.Ytkedcaplbdhmeaa
open Go.RowKit Go.Tab

theorem rcross_eq (ax ay bx b_y cx cy : Int) : ax * b_y - bx * ay + bx * cy - cx * b_y + cx * ay - ax * cy = crossI ax ay bx b_y cx cy := by unfold crossI; grind
theorem rcross_any' (ax ay bx b_y cx cy : Int) (w : World) (ha : mayB ax ay = true) (hb : mayB bx b_y = true) (hc : mayB cx cy = true) :
    Calls Try.prog 11 #[pt ax ay, pt bx b_y, pt cx cy] w (Ret (.int .i64 (crossI ax ay bx b_y cx cy)) w) := by
  rw [← rcross_eq]; exact rcross_any _ _ _ _ _ _ w ha hb hc

set_option maxHeartbeats 800000 in
theorem ron_any (ax ay bx b_y px py : Int) (w : World) (ha : mayB ax ay = true) (hb : mayB bx b_y = true) (hc : mayB px py = true) :
    Calls Try.prog 20 #[pt ax ay, pt bx b_y, pt px py] w (Ret (.bool (ronB ax ay bx b_y px py)) w) := by
  have Hcr := Lib.hid (fun w => rcross_any' ax ay bx b_y px py w ha hb hc)
  obtain ⟨a1, a2, a3, a4⟩ := mayB_iff.1 ha
  obtain ⟨b1, b2, b3, b4⟩ := mayB_iff.1 hb
  obtain ⟨c1, c2, c3, c4⟩ := mayB_iff.1 hc
  clear ha hb hc
  by_cases heq : ax = bx ∧ ay = b_y
  · obtain ⟨rfl, rfl⟩ := heq
    go_enter Try.func20, Try.ntmps20
    go_wp2_with fail
    all_goals
      go_ret
      exact ⟨ret_bool (by unfold ronB; rw [if_pos ⟨rfl, rfl⟩]; first | (rw [eq_comm, decide_eq_true_iff]; omega) | (rw [eq_comm, decide_eq_false_iff_not]; omega) | (rw [Bool.eq_iff_iff]; simp; try omega)), (((Grows.refl w).al _).al _).al _⟩
  · have Hv : Hid (ronB ax ay bx b_y px py = (decide (crossI ax ay bx b_y px py = 0) && decide (0 ≤ (px - ax) * (bx - ax) + (py - ay) * (b_y - ay)) && decide ((px - ax) * (bx - ax) + (py - ay) * (b_y - ay) ≤ (bx - ax) * (bx - ax) + (b_y - ay) * (b_y - ay)))) := by
      unfold ronB; rw [if_neg heq]; rfl
    obtain ⟨p1, q1⟩ := @mul_bd (px - ax) (bx - ax) 33554432 33554432 (by omega) (by omega) (by omega) (by omega)
    obtain ⟨p2, q2⟩ := @mul_bd (py - ay) (b_y - ay) 33554432 33554432 (by omega) (by omega) (by omega) (by omega)
    obtain ⟨p3, q3⟩ := @mul_bd (bx - ax) (bx - ax) 33554432 33554432 (by omega) (by omega) (by omega) (by omega)
    obtain ⟨p4, q4⟩ := @mul_bd (b_y - ay) (b_y - ay) 33554432 33554432 (by omega) (by omega) (by omega) (by omega)
    generalize ronB ax ay bx b_y px py = res at Hv ⊢
    generalize crossI ax ay bx b_y px py = n at Hv Hcr
    have heq' : ¬ ax = bx ∨ (ax = bx ∧ ¬ ay = b_y) := by omega
    clear heq
    rcases heq' with hx | ⟨rfl, hx⟩
    all_goals
      go_enter Try.func20, Try.ntmps20
      go_wp2_with fail
      refine (Hcr.out _).mono ?_
      rintro e w' ⟨rfl, hg⟩
      have Hg := Lib.hid hg
      clear hg
      go_wp2
      all_goals
        go_ret
        exact ⟨ret_bool (by rw [Hv.out]; rw [Bool.eq_iff_iff]; simp; try omega), ((((Grows.refl w).al _).al _).al _).trans Hg.out⟩

set_option maxHeartbeats 1600000 in
theorem rin_signs (ax ay bx b_y cx cy px py n1 n2 n3 : Int) (w : World) (h1 : ronB ax ay bx b_y px py = false) (h2 : ronB bx b_y cx cy px py = false) (h3 : ronB cx cy ax ay px py = false)
    (ha : mayB ax ay = true) (hb : mayB bx b_y = true) (hc : mayB cx cy = true) (hp : mayB px py = true)
    (Hc1 : Hid (∀ w, Calls Try.prog 11 #[pt ax ay, pt bx b_y, pt px py] w (Ret (.int .i64 n1) w)))
    (Hc2 : Hid (∀ w, Calls Try.prog 11 #[pt bx b_y, pt cx cy, pt px py] w (Ret (.int .i64 n2) w)))
    (Hc3 : Hid (∀ w, Calls Try.prog 11 #[pt cx cy, pt ax ay, pt px py] w (Ret (.int .i64 n3) w))) :
    Calls Try.prog 21 #[pt ax ay, pt bx b_y, pt cx cy, pt px py] w (Ret (.bool (decide (signI n1 = signI n2 ∧ signI n2 = signI n3 ∧ signI n1 ≠ 0))) w) := by
  have Ho1 := Lib.hid (fun w => ron_any ax ay bx b_y px py w ha hb hp)
  have Ho2 := Lib.hid (fun w => ron_any bx b_y cx cy px py w hb hc hp)
  have Ho3 := Lib.hid (fun w => ron_any cx cy ax ay px py w hc ha hp)
  rw [h1] at Ho1
  rw [h2] at Ho2
  rw [h3] at Ho3
  clear h1 h2 h3 ha hb hc hp
  go_enter Try.func21, Try.ntmps21
  go_wp2_with fail
  refine (Ho1.out _).mono ?_
  rintro e w1 ⟨rfl, hg⟩
  obtain ⟨c1, c2, c3, c4, c5, c6, c7, c8⟩ := box4 hg
  have G0 := Lib.hid hg
  clear hg
  go_wp2_with fail
  refine (Ho2.out _).mono ?_
  rintro e w2 ⟨rfl, hg1⟩
  clear c1 c2 c3 c4 c5 c6 c7 c8
  have g1 := G0.out.trans hg1
  obtain ⟨c1, c2, c3, c4, c5, c6, c7, c8⟩ := box4 g1
  have G1 := Lib.hid g1
  clear hg1 g1 G0
  go_wp2_with fail
  refine (Ho3.out _).mono ?_
  rintro e w3 ⟨rfl, hg2⟩
  clear c1 c2 c3 c4 c5 c6 c7 c8
  have G0 := Lib.hid (G1.out.trans hg2)
  clear hg2 G1
  go_wp2
  refine wp_region_tab 18 (by kernel_rfl) (by kernel_rfl) ?_
  intro w0 hw0 hg1 hg1'
  simp only [List.take_succ_cons, List.take_zero, List.drop_succ_cons, List.drop_zero]
  · 
    refine tab_val (pt ax ay) (fun r w1 hr hg hA => by obtain ⟨q0, -⟩ := hA; have q0e : r (.tmp 4) = .pointer (some ⟨w.heap.size, 0, none⟩) := q0; have hc := box4 (G0.out.trans (hg1.trans hg)); exact ⟨rfl, by simp [go_sem, hr.const, hr.glob, q0e, hc]⟩) ?_
    refine tab_val (pt bx b_y) (fun r w1 hr hg hA => by obtain ⟨q0, -⟩ := hA; have q0e : r (.tmp 5) = .pointer (some ⟨w.heap.size + 1, 0, none⟩) := q0; have hc := box4 (G0.out.trans (hg1.trans hg)); exact ⟨rfl, by simp [go_sem, hr.const, hr.glob, q0e, hc]⟩) ?_
    refine tab_val (pt px py) (fun r w1 hr hg hA => by obtain ⟨q0, -⟩ := hA; have q0e : r (.tmp 7) = .pointer (some ⟨w.heap.size + 1 + 1 + 1, 0, none⟩) := q0; have hc := box4 (G0.out.trans (hg1.trans hg)); exact ⟨rfl, by simp [go_sem, hr.const, hr.glob, q0e, hc]⟩) ?_
    refine tab_call (v := .int .i64 n1) (fun w1 hg => Hc1.out w1) (fun r w1 hr hg hA => by obtain ⟨⟨_, q0⟩, ⟨_, q1⟩, ⟨_, q2⟩, -⟩ := hA; have q0e : r (.tmp 28) = pt ax ay := q0; have q1e : r (.tmp 29) = pt bx b_y := q1; have q2e : r (.tmp 30) = pt px py := q2; exact ⟨rfl, by simp [go_sem, hr.const, hr.func, q0e, q1e, q2e]⟩) ?_
    refine tab_call (v := .int .i64 (signI n1)) (fun w1 hg => rsign_any n1 w1) (fun r w1 hr hg hA => by obtain ⟨⟨_, q0⟩, -⟩ := hA; have q0e : r (.tmp 31) = .int .i64 n1 := q0; exact ⟨rfl, by simp [go_sem, hr.const, hr.func, q0e]⟩) ?_
    refine tab_val (pt bx b_y) (fun r w1 hr hg hA => by obtain ⟨q0, -⟩ := hA; have q0e : r (.tmp 5) = .pointer (some ⟨w.heap.size + 1, 0, none⟩) := q0; have hc := box4 (G0.out.trans (hg1.trans hg)); exact ⟨rfl, by simp [go_sem, hr.const, hr.glob, q0e, hc]⟩) ?_
    refine tab_val (pt cx cy) (fun r w1 hr hg hA => by obtain ⟨q0, -⟩ := hA; have q0e : r (.tmp 6) = .pointer (some ⟨w.heap.size + 1 + 1, 0, none⟩) := q0; have hc := box4 (G0.out.trans (hg1.trans hg)); exact ⟨rfl, by simp [go_sem, hr.const, hr.glob, q0e, hc]⟩) ?_
    refine tab_val (pt px py) (fun r w1 hr hg hA => by obtain ⟨q0, -⟩ := hA; have q0e : r (.tmp 7) = .pointer (some ⟨w.heap.size + 1 + 1 + 1, 0, none⟩) := q0; have hc := box4 (G0.out.trans (hg1.trans hg)); exact ⟨rfl, by simp [go_sem, hr.const, hr.glob, q0e, hc]⟩) ?_
    refine tab_call (v := .int .i64 n2) (fun w1 hg => Hc2.out w1) (fun r w1 hr hg hA => by obtain ⟨⟨_, q0⟩, ⟨_, q1⟩, ⟨_, q2⟩, -⟩ := hA; have q0e : r (.tmp 33) = pt bx b_y := q0; have q1e : r (.tmp 34) = pt cx cy := q1; have q2e : r (.tmp 35) = pt px py := q2; exact ⟨rfl, by simp [go_sem, hr.const, hr.func, q0e, q1e, q2e]⟩) ?_
    refine tab_call (v := .int .i64 (signI n2)) (fun w1 hg => rsign_any n2 w1) (fun r w1 hr hg hA => by obtain ⟨⟨_, q0⟩, -⟩ := hA; have q0e : r (.tmp 36) = .int .i64 n2 := q0; exact ⟨rfl, by simp [go_sem, hr.const, hr.func, q0e]⟩) ?_
    refine tab_val (pt cx cy) (fun r w1 hr hg hA => by obtain ⟨q0, -⟩ := hA; have q0e : r (.tmp 6) = .pointer (some ⟨w.heap.size + 1 + 1, 0, none⟩) := q0; have hc := box4 (G0.out.trans (hg1.trans hg)); exact ⟨rfl, by simp [go_sem, hr.const, hr.glob, q0e, hc]⟩) ?_
    refine tab_val (pt ax ay) (fun r w1 hr hg hA => by obtain ⟨q0, -⟩ := hA; have q0e : r (.tmp 4) = .pointer (some ⟨w.heap.size, 0, none⟩) := q0; have hc := box4 (G0.out.trans (hg1.trans hg)); exact ⟨rfl, by simp [go_sem, hr.const, hr.glob, q0e, hc]⟩) ?_
    refine tab_val (pt px py) (fun r w1 hr hg hA => by obtain ⟨q0, -⟩ := hA; have q0e : r (.tmp 7) = .pointer (some ⟨w.heap.size + 1 + 1 + 1, 0, none⟩) := q0; have hc := box4 (G0.out.trans (hg1.trans hg)); exact ⟨rfl, by simp [go_sem, hr.const, hr.glob, q0e, hc]⟩) ?_
    refine tab_call (v := .int .i64 n3) (fun w1 hg => Hc3.out w1) (fun r w1 hr hg hA => by obtain ⟨⟨_, q0⟩, ⟨_, q1⟩, ⟨_, q2⟩, -⟩ := hA; have q0e : r (.tmp 38) = pt cx cy := q0; have q1e : r (.tmp 39) = pt ax ay := q1; have q2e : r (.tmp 40) = pt px py := q2; exact ⟨rfl, by simp [go_sem, hr.const, hr.func, q0e, q1e, q2e]⟩) ?_
    refine tab_call (v := .int .i64 (signI n3)) (fun w1 hg => rsign_any n3 w1) (fun r w1 hr hg hA => by obtain ⟨⟨_, q0⟩, -⟩ := hA; have q0e : r (.tmp 41) = .int .i64 n3 := q0; exact ⟨rfl, by simp [go_sem, hr.const, hr.func, q0e]⟩) ?_
    refine tab_val (.int .i64 (signI n1)) (fun r w1 hr hg hA => by obtain ⟨⟨_, q0⟩, -⟩ := hA; have q0e : r (.tmp 32) = .int .i64 (signI n1) := q0; exact ⟨rfl, by simp [go_sem, hr.const, hr.glob, q0e]⟩) ?_
    refine tab_val (.int .i64 (signI n2)) (fun r w1 hr hg hA => by obtain ⟨⟨_, q0⟩, -⟩ := hA; have q0e : r (.tmp 37) = .int .i64 (signI n2) := q0; exact ⟨rfl, by simp [go_sem, hr.const, hr.glob, q0e]⟩) ?_
    refine tab_val (.int .i64 (signI n3)) (fun r w1 hr hg hA => by obtain ⟨⟨_, q0⟩, -⟩ := hA; have q0e : r (.tmp 42) = .int .i64 (signI n3) := q0; exact ⟨rfl, by simp [go_sem, hr.const, hr.glob, q0e]⟩) ?_
    refine tab_end ?_
    simp only [List.reverse_cons, List.reverse_nil, List.nil_append, List.cons_append, Out, forall_eq, forall_const]
    intro wA hgA
    have G1 := Lib.hid (G0.out.trans (hg1.trans hgA))
    clear hg1 hg1' hw0 G0 hgA
    go_wp2
    all_goals
      go_ret
      exact ⟨ret_bool (by rw [Bool.eq_iff_iff]; simp; try omega), (((((Grows.refl w).al _).al _).al _).al _).trans G1.out⟩
end Go.Proofs.Ytkedcaplbdhmeaa
