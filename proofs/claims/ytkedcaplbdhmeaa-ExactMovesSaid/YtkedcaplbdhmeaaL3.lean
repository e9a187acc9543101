/-
  The law on turns.
-/
import Derived.Test.YtkedcaplbdhmeaaL1
namespace Go.Proofs.Ytkedcaplbdhmeaa
open Go.RowKit Go.Tab

theorem crossP_swap (ax ay bx b_y cx cy : Int) : crossP bx b_y ax ay cx cy = - crossP ax ay bx b_y cx cy := by
  unfold crossP
  rw [cross_swap, Bool.and_comm (mayB bx b_y)]
  split <;> simp
theorem crossP_rot (ax ay bx b_y cx cy : Int) : crossP bx b_y cx cy ax ay = crossP ax ay bx b_y cx cy := by
  unfold crossP
  rw [cross_rot, show (mayB bx b_y && mayB cx cy && mayB ax ay) = (mayB ax ay && mayB bx b_y && mayB cx cy) by rw [Bool.and_comm, Bool.and_assoc]]
theorem crossP_same (ax ay bx b_y : Int) : crossP ax ay bx b_y bx b_y = 0 := by
  unfold crossP
  split
  · unfold crossI; grind
  · rfl

theorem inB_rot (ax ay bx b_y cx cy px py : Int) : inB bx b_y cx cy ax ay px py = inB ax ay bx b_y cx cy px py := by
  unfold inB
  rw [cross_rot]
  split
  · rw [Bool.eq_iff_iff]; simp only [Bool.or_eq_true]; grind
  · rw [Bool.eq_iff_iff]; simp only [Bool.and_eq_true]; grind
theorem signI_neg (n : Int) : signI (-n) = - signI n := by
  unfold signI
  split <;> (try split) <;> (try split) <;> (try split) <;> omega
theorem inB_swap (ax ay bx b_y cx cy px py : Int) : inB bx b_y ax ay cx cy px py = inB ax ay bx b_y cx cy px py := by
  unfold inB
  rw [cross_swap, cross_swap ax ay bx b_y px py, cross_swap cx cy ax ay px py, cross_swap bx b_y cx cy px py]
  simp only [signI_neg, Int.neg_mul_neg]
  by_cases h : crossI ax ay bx b_y cx cy = 0
  · rw [if_pos (by omega), if_pos h, on_comm bx b_y ax ay, on_comm ax ay cx cy, on_comm cx cy bx b_y, Bool.eq_iff_iff]
    simp only [Bool.or_eq_true]; grind
  · rw [if_neg (by omega), if_neg h, Bool.eq_iff_iff]
    simp only [Bool.and_eq_true]; grind
theorem inP_rot (ax ay bx b_y cx cy px py : Int) : inP bx b_y cx cy ax ay px py = inP ax ay bx b_y cx cy px py := by
  unfold inP
  rw [inB_rot, show (mayB bx b_y && mayB cx cy && mayB ax ay) = (mayB ax ay && mayB bx b_y && mayB cx cy) by rw [Bool.and_comm, Bool.and_assoc]]
theorem inP_swap (ax ay bx b_y cx cy px py : Int) : inP bx b_y ax ay cx cy px py = inP ax ay bx b_y cx cy px py := by
  unfold inP
  rw [inB_swap, Bool.and_comm (mayB bx b_y)]
theorem onP_comm (ax ay bx b_y px py : Int) : onP bx b_y ax ay px py = onP ax ay bx b_y px py := by
  unfold onP
  rw [on_comm bx b_y, Bool.and_comm (mayB bx b_y)]
theorem onB_end (ax ay bx b_y : Int) : onB ax ay bx b_y ax ay = true := by
  unfold onB
  split
  · simp
  · have : crossI ax ay bx b_y ax ay = 0 := by unfold crossI; grind
    simp [this, betwB]; omega
theorem sign_sq (n : Int) : 0 ≤ signI n * signI n := sq_nonneg _
theorem inB_end (ax ay bx b_y cx cy : Int) : inB ax ay bx b_y cx cy ax ay = true := by
  unfold inB
  split
  · rw [onB_end]; rfl
  · have h1 : crossI ax ay bx b_y ax ay = 0 := by unfold crossI; grind
    have h3 : crossI cx cy ax ay ax ay = 0 := by unfold crossI; grind
    have h0 : signI 0 = 0 := rfl
    rw [h1, h3, cross_rot ax ay bx b_y cx cy, h0]
    simp [sign_sq]
theorem inP_end {ax ay bx b_y cx cy : Int} (h : (mayB ax ay && mayB bx b_y && mayB cx cy) = true) :
    inP ax ay bx b_y cx cy ax ay = true ∧ inP ax ay bx b_y cx cy bx b_y = true ∧ inP ax ay bx b_y cx cy cx cy = true := by
  simp only [Bool.and_eq_true] at h
  obtain ⟨⟨h1, h2⟩, h3⟩ := h
  refine ⟨?_, ?_, ?_⟩
  · unfold inP; rw [h1, h2, h3, inB_end]; rfl
  · rw [← inP_rot]; unfold inP; rw [h1, h2, h3, inB_end]; rfl
  · rw [← inP_rot, ← inP_rot]; unfold inP; rw [h1, h2, h3, inB_end]; rfl
theorem onP_end {ax ay bx b_y : Int} (h1 : mayB ax ay = true) (h2 : mayB bx b_y = true) : onP ax ay bx b_y bx b_y = true := by
  rw [← onP_comm]; unfold onP; rw [h1, h2, onB_end]; rfl

set_option maxRecDepth 100000 in
set_option maxHeartbeats 4000000 in
theorem law_turns_core (ax ay bx b_y cx cy px py n : Int) (i o rr : Bool) (w : World) (n1 : -2251799813685248 ≤ n) (n2 : n ≤ 2251799813685248)
    (AR : Hid (rightB [(ax, ay), (bx, b_y), (cx, cy)] = rr)) (hi : Hid (rr = false → i = false))
    (C1 : Hid (∀ w, Calls Try.prog 17 #[pt ax ay, pt bx b_y, pt cx cy] w (Ret (.int .i64 n) w)))
    (C2 : Hid (∀ w, Calls Try.prog 17 #[pt bx b_y, pt ax ay, pt cx cy] w (Ret (.int .i64 (-n)) w)))
    (C3 : Hid (∀ w, Calls Try.prog 17 #[pt bx b_y, pt cx cy, pt ax ay] w (Ret (.int .i64 n) w)))
    (C4 : Hid (∀ w, Calls Try.prog 17 #[pt cx cy, pt ax ay, pt bx b_y] w (Ret (.int .i64 n) w)))
    (C5 : Hid (∀ w, Calls Try.prog 17 #[pt ax ay, pt bx b_y, pt bx b_y] w (Ret (.int .i64 0) w)))
    (T1 : Hid (∀ w, Calls Try.prog 23 #[pt ax ay, pt bx b_y, pt cx cy, pt px py] w (Ret (.bool i) w)))
    (T2 : Hid (∀ w, Calls Try.prog 23 #[pt bx b_y, pt cx cy, pt ax ay, pt px py] w (Ret (.bool i) w)))
    (T3 : Hid (∀ w, Calls Try.prog 23 #[pt bx b_y, pt ax ay, pt cx cy, pt px py] w (Ret (.bool i) w)))
    (O1 : Hid (∀ w, Calls Try.prog 22 #[pt ax ay, pt bx b_y, pt px py] w (Ret (.bool o) w)))
    (O2 : Hid (∀ w, Calls Try.prog 22 #[pt bx b_y, pt ax ay, pt px py] w (Ret (.bool o) w)))
    (T4 : Hid (rr = true → ∀ w, Calls Try.prog 23 #[pt ax ay, pt bx b_y, pt cx cy, pt ax ay] w (Ret (.bool true) w)))
    (T5 : Hid (rr = true → ∀ w, Calls Try.prog 23 #[pt ax ay, pt bx b_y, pt cx cy, pt bx b_y] w (Ret (.bool true) w)))
    (T6 : Hid (rr = true → ∀ w, Calls Try.prog 23 #[pt ax ay, pt bx b_y, pt cx cy, pt cx cy] w (Ret (.bool true) w)))
    (O3 : Hid (rr = true → ∀ w, Calls Try.prog 22 #[pt ax ay, pt bx b_y, pt bx b_y] w (Ret (.bool true) w)))
    (O4 : Hid (rr = true → o = false → ∀ w, Calls Try.prog 22 #[pt ax ay, pt ax ay, pt px py] w (Ret (.bool false) w))) :
    Calls Try.prog 7 #[pt ax ay, pt bx b_y, pt cx cy, pt px py] w (Ret (.bool true) w) := by
  have AR' := AR.out
  have HA := fun v w hp => right_any v [(ax, ay), (bx, b_y), (cx, cy)] w hp
  rw [AR'] at HA
  have R := Lib.hid HA
  clear AR AR' HA
  go_enter Try.func7, Try.ntmps7
  go_wp2_with fail
  refine (C1.out _).mono ?_
  rintro e w1 ⟨rfl, hg⟩
  obtain ⟨c1, c2, c3, c4, c5, c6, c7, c8⟩ := box4 hg
  have G := Lib.hid hg
  clear hg
  go_wp2_with fail
  refine (C2.out _).mono ?_
  rintro e w1 ⟨rfl, hg⟩
  clear c1 c2 c3 c4 c5 c6 c7 c8
  have hg := G.out.trans hg
  clear G
  obtain ⟨c1, c2, c3, c4, c5, c6, c7, c8⟩ := box4 hg
  have G := Lib.hid hg
  clear hg
  go_wp2_with fail
  refine (C3.out _).mono ?_
  rintro e w1 ⟨rfl, hg⟩
  clear c1 c2 c3 c4 c5 c6 c7 c8
  have hg := G.out.trans hg
  clear G
  obtain ⟨c1, c2, c3, c4, c5, c6, c7, c8⟩ := box4 hg
  have G := Lib.hid hg
  clear hg
  go_wp2_with fail
  refine (C4.out _).mono ?_
  rintro e w1 ⟨rfl, hg⟩
  clear c1 c2 c3 c4 c5 c6 c7 c8
  have hg := G.out.trans hg
  clear G
  obtain ⟨c1, c2, c3, c4, c5, c6, c7, c8⟩ := box4 hg
  have G := Lib.hid hg
  clear hg
  go_wp2_with fail
  refine (C5.out _).mono ?_
  rintro e w1 ⟨rfl, hg⟩
  clear c1 c2 c3 c4 c5 c6 c7 c8
  have hg := G.out.trans hg
  clear G
  obtain ⟨c1, c2, c3, c4, c5, c6, c7, c8⟩ := box4 hg
  have G := Lib.hid hg
  clear hg
  go_wp2_with fail
  refine (T1.out _).mono ?_
  rintro e w1 ⟨rfl, hg⟩
  clear c1 c2 c3 c4 c5 c6 c7 c8
  have hg := G.out.trans hg
  clear G
  obtain ⟨c1, c2, c3, c4, c5, c6, c7, c8⟩ := box4 hg
  have G := Lib.hid hg
  clear hg
  go_wp2
  · refine wp_region_tab 27 (by kernel_rfl) (by kernel_rfl) ?_
    intro w0 hw0 hg1 hg1'
    simp only [List.take_succ_cons, List.take_zero, List.drop_succ_cons, List.drop_zero]
    clear c1 c2 c3 c4 c5 c6 c7 c8
    · 
      refine tab_val (pt bx b_y) (fun r w1 hr hg hA => by obtain ⟨q0, -⟩ := hA; have q0e : r (.tmp 5) = .pointer (some ⟨w.heap.size + 1, 0, none⟩) := q0; have hc := box4 (G.out.trans (hg1.trans hg)); exact ⟨rfl, by simp [go_sem, hr.const, hr.glob, q0e, hc]⟩) ?_
      refine tab_val (pt cx cy) (fun r w1 hr hg hA => by obtain ⟨q0, -⟩ := hA; have q0e : r (.tmp 6) = .pointer (some ⟨w.heap.size + 1 + 1, 0, none⟩) := q0; have hc := box4 (G.out.trans (hg1.trans hg)); exact ⟨rfl, by simp [go_sem, hr.const, hr.glob, q0e, hc]⟩) ?_
      refine tab_val (pt ax ay) (fun r w1 hr hg hA => by obtain ⟨q0, -⟩ := hA; have q0e : r (.tmp 4) = .pointer (some ⟨w.heap.size, 0, none⟩) := q0; have hc := box4 (G.out.trans (hg1.trans hg)); exact ⟨rfl, by simp [go_sem, hr.const, hr.glob, q0e, hc]⟩) ?_
      refine tab_val (pt px py) (fun r w1 hr hg hA => by obtain ⟨q0, -⟩ := hA; have q0e : r (.tmp 7) = .pointer (some ⟨w.heap.size + 1 + 1 + 1, 0, none⟩) := q0; have hc := box4 (G.out.trans (hg1.trans hg)); exact ⟨rfl, by simp [go_sem, hr.const, hr.glob, q0e, hc]⟩) ?_
      refine tab_call (v := .bool i) (fun w1 hg => T2.out w1) (fun r w1 hr hg hA => by obtain ⟨⟨_, q0⟩, ⟨_, q1⟩, ⟨_, q2⟩, ⟨_, q3⟩, -⟩ := hA; have q0e : r (.tmp 50) = pt bx b_y := q0; have q1e : r (.tmp 51) = pt cx cy := q1; have q2e : r (.tmp 52) = pt ax ay := q2; have q3e : r (.tmp 53) = pt px py := q3; exact ⟨rfl, by simp [go_sem, hr.const, hr.func, q0e, q1e, q2e, q3e]⟩) ?_
      refine tab_val (.bool i) (fun r w1 hr hg hA => by obtain ⟨q0, -⟩ := hA; have q0e : r (.tmp 10) = .bool i := q0; exact ⟨rfl, by simp [go_sem, hr.const, hr.glob, q0e]⟩) ?_
      refine tab_val (.bool false) (fun r w1 hr hg hA => by obtain ⟨⟨_, q0⟩, ⟨_, q1⟩, -⟩ := hA; have q0e : r (.tmp 54) = .bool i := q0; have q1e : r (.tmp 55) = .bool i := q1; exact ⟨rfl, by simp [go_sem, hr.const, hr.glob, q0e, q1e]⟩) ?_
      refine tab_val (.bool false) (fun r w1 hr hg hA => by obtain ⟨⟨_, q0⟩, -⟩ := hA; have q0e : r (.tmp 56) = .bool false := q0; exact ⟨rfl, by simp [go_sem, hr.const, hr.glob, q0e]⟩) ?_
      refine tab_val (pt bx b_y) (fun r w1 hr hg hA => by obtain ⟨q0, ⟨_, q1⟩, -⟩ := hA; have q0e : r (.tmp 5) = .pointer (some ⟨w.heap.size + 1, 0, none⟩) := q0; have q1e : r (.tmp 57) = .bool false := q1; have hc := box4 (G.out.trans (hg1.trans hg)); exact ⟨⟨_, q1e, rfl⟩, by simp [go_sem, hr.const, hr.glob, q0e, hc]⟩) ?_
      refine tab_val (pt ax ay) (fun r w1 hr hg hA => by obtain ⟨q0, ⟨_, q1⟩, -⟩ := hA; have q0e : r (.tmp 4) = .pointer (some ⟨w.heap.size, 0, none⟩) := q0; have q1e : r (.tmp 57) = .bool false := q1; have hc := box4 (G.out.trans (hg1.trans hg)); exact ⟨⟨_, q1e, rfl⟩, by simp [go_sem, hr.const, hr.glob, q0e, hc]⟩) ?_
      refine tab_val (pt cx cy) (fun r w1 hr hg hA => by obtain ⟨q0, ⟨_, q1⟩, -⟩ := hA; have q0e : r (.tmp 6) = .pointer (some ⟨w.heap.size + 1 + 1, 0, none⟩) := q0; have q1e : r (.tmp 57) = .bool false := q1; have hc := box4 (G.out.trans (hg1.trans hg)); exact ⟨⟨_, q1e, rfl⟩, by simp [go_sem, hr.const, hr.glob, q0e, hc]⟩) ?_
      refine tab_val (pt px py) (fun r w1 hr hg hA => by obtain ⟨q0, ⟨_, q1⟩, -⟩ := hA; have q0e : r (.tmp 7) = .pointer (some ⟨w.heap.size + 1 + 1 + 1, 0, none⟩) := q0; have q1e : r (.tmp 57) = .bool false := q1; have hc := box4 (G.out.trans (hg1.trans hg)); exact ⟨⟨_, q1e, rfl⟩, by simp [go_sem, hr.const, hr.glob, q0e, hc]⟩) ?_
      refine tab_call (v := .bool i) (fun w1 hg => T3.out w1) (fun r w1 hr hg hA => by obtain ⟨⟨_, q0⟩, ⟨_, q1⟩, ⟨_, q2⟩, ⟨_, q3⟩, ⟨_, q4⟩, -⟩ := hA; have q0e : r (.tmp 58) = pt bx b_y := q0; have q1e : r (.tmp 59) = pt ax ay := q1; have q2e : r (.tmp 60) = pt cx cy := q2; have q3e : r (.tmp 61) = pt px py := q3; have q4e : r (.tmp 57) = .bool false := q4; exact ⟨⟨_, q4e, rfl⟩, by simp [go_sem, hr.const, hr.func, q0e, q1e, q2e, q3e]⟩) ?_
      refine tab_val (.bool i) (fun r w1 hr hg hA => by obtain ⟨q0, ⟨_, q1⟩, -⟩ := hA; have q0e : r (.tmp 10) = .bool i := q0; have q1e : r (.tmp 57) = .bool false := q1; exact ⟨⟨_, q1e, rfl⟩, by simp [go_sem, hr.const, hr.glob, q0e]⟩) ?_
      refine tab_val (.bool false) (fun r w1 hr hg hA => by obtain ⟨⟨_, q0⟩, ⟨_, q1⟩, ⟨_, q2⟩, -⟩ := hA; have q0e : r (.tmp 62) = .bool i := q0; have q1e : r (.tmp 63) = .bool i := q1; have q2e : r (.tmp 57) = .bool false := q2; exact ⟨⟨_, q2e, rfl⟩, by simp [go_sem, hr.const, hr.glob, q0e, q1e]⟩) ?_
      refine tab_val (.bool false) (fun r w1 hr hg hA => by obtain ⟨⟨_, q0⟩, ⟨_, q1⟩, -⟩ := hA; have q0e : r (.tmp 57) = .bool false := q0; have q1e : r (.tmp 64) = .bool false := q1; exact ⟨rfl, by simp [go_sem, hr.const, hr.glob, q0e, q1e]⟩) ?_
      refine tab_val (.bool false) (fun r w1 hr hg hA => by obtain ⟨⟨_, q0⟩, -⟩ := hA; have q0e : r (.tmp 65) = .bool false := q0; exact ⟨rfl, by simp [go_sem, hr.const, hr.glob, q0e]⟩) ?_
      refine tab_val (pt ax ay) (fun r w1 hr hg hA => by obtain ⟨q0, ⟨_, q1⟩, -⟩ := hA; have q0e : r (.tmp 4) = .pointer (some ⟨w.heap.size, 0, none⟩) := q0; have q1e : r (.tmp 66) = .bool false := q1; have hc := box4 (G.out.trans (hg1.trans hg)); exact ⟨⟨_, q1e, rfl⟩, by simp [go_sem, hr.const, hr.glob, q0e, hc]⟩) ?_
      refine tab_val (pt bx b_y) (fun r w1 hr hg hA => by obtain ⟨q0, ⟨_, q1⟩, -⟩ := hA; have q0e : r (.tmp 5) = .pointer (some ⟨w.heap.size + 1, 0, none⟩) := q0; have q1e : r (.tmp 66) = .bool false := q1; have hc := box4 (G.out.trans (hg1.trans hg)); exact ⟨⟨_, q1e, rfl⟩, by simp [go_sem, hr.const, hr.glob, q0e, hc]⟩) ?_
      refine tab_val (pt px py) (fun r w1 hr hg hA => by obtain ⟨q0, ⟨_, q1⟩, -⟩ := hA; have q0e : r (.tmp 7) = .pointer (some ⟨w.heap.size + 1 + 1 + 1, 0, none⟩) := q0; have q1e : r (.tmp 66) = .bool false := q1; have hc := box4 (G.out.trans (hg1.trans hg)); exact ⟨⟨_, q1e, rfl⟩, by simp [go_sem, hr.const, hr.glob, q0e, hc]⟩) ?_
      refine tab_call (v := .bool o) (fun w1 hg => O1.out w1) (fun r w1 hr hg hA => by obtain ⟨⟨_, q0⟩, ⟨_, q1⟩, ⟨_, q2⟩, ⟨_, q3⟩, -⟩ := hA; have q0e : r (.tmp 67) = pt ax ay := q0; have q1e : r (.tmp 68) = pt bx b_y := q1; have q2e : r (.tmp 69) = pt px py := q2; have q3e : r (.tmp 66) = .bool false := q3; exact ⟨⟨_, q3e, rfl⟩, by simp [go_sem, hr.const, hr.func, q0e, q1e, q2e]⟩) ?_
      refine tab_val (pt bx b_y) (fun r w1 hr hg hA => by obtain ⟨q0, ⟨_, q1⟩, -⟩ := hA; have q0e : r (.tmp 5) = .pointer (some ⟨w.heap.size + 1, 0, none⟩) := q0; have q1e : r (.tmp 66) = .bool false := q1; have hc := box4 (G.out.trans (hg1.trans hg)); exact ⟨⟨_, q1e, rfl⟩, by simp [go_sem, hr.const, hr.glob, q0e, hc]⟩) ?_
      refine tab_val (pt ax ay) (fun r w1 hr hg hA => by obtain ⟨q0, ⟨_, q1⟩, -⟩ := hA; have q0e : r (.tmp 4) = .pointer (some ⟨w.heap.size, 0, none⟩) := q0; have q1e : r (.tmp 66) = .bool false := q1; have hc := box4 (G.out.trans (hg1.trans hg)); exact ⟨⟨_, q1e, rfl⟩, by simp [go_sem, hr.const, hr.glob, q0e, hc]⟩) ?_
      refine tab_val (pt px py) (fun r w1 hr hg hA => by obtain ⟨q0, ⟨_, q1⟩, -⟩ := hA; have q0e : r (.tmp 7) = .pointer (some ⟨w.heap.size + 1 + 1 + 1, 0, none⟩) := q0; have q1e : r (.tmp 66) = .bool false := q1; have hc := box4 (G.out.trans (hg1.trans hg)); exact ⟨⟨_, q1e, rfl⟩, by simp [go_sem, hr.const, hr.glob, q0e, hc]⟩) ?_
      refine tab_call (v := .bool o) (fun w1 hg => O2.out w1) (fun r w1 hr hg hA => by obtain ⟨⟨_, q0⟩, ⟨_, q1⟩, ⟨_, q2⟩, ⟨_, q3⟩, -⟩ := hA; have q0e : r (.tmp 71) = pt bx b_y := q0; have q1e : r (.tmp 72) = pt ax ay := q1; have q2e : r (.tmp 73) = pt px py := q2; have q3e : r (.tmp 66) = .bool false := q3; exact ⟨⟨_, q3e, rfl⟩, by simp [go_sem, hr.const, hr.func, q0e, q1e, q2e]⟩) ?_
      refine tab_val (.bool false) (fun r w1 hr hg hA => by obtain ⟨⟨_, q0⟩, ⟨_, q1⟩, ⟨_, q2⟩, -⟩ := hA; have q0e : r (.tmp 70) = .bool o := q0; have q1e : r (.tmp 74) = .bool o := q1; have q2e : r (.tmp 66) = .bool false := q2; exact ⟨⟨_, q2e, rfl⟩, by simp [go_sem, hr.const, hr.glob, q0e, q1e]⟩) ?_
      refine tab_val (.bool false) (fun r w1 hr hg hA => by obtain ⟨⟨_, q0⟩, ⟨_, q1⟩, -⟩ := hA; have q0e : r (.tmp 66) = .bool false := q0; have q1e : r (.tmp 75) = .bool false := q1; exact ⟨rfl, by simp [go_sem, hr.const, hr.glob, q0e, q1e]⟩) ?_
      refine tab_end ?_
      simp only [List.reverse_cons, List.reverse_nil, List.nil_append, List.cons_append, Out, forall_eq, forall_const, Act.put, List.setIfInBounds_toArray, List.set_cons_succ, List.set_cons_zero]
      intro wA hgA
      have hg := G.out.trans (hg1.trans hgA)
      obtain ⟨c1, c2, c3, c4, c5, c6, c7, c8⟩ := box4 hg
      clear G hg1 hg1' hgA hw0
      have G := Lib.hid hg
      clear hg
      go_wp2_with fail
      refine (R.out _ _ (ptsAt3 (heap_new _ _ _ rfl))).mono ?_
      rintro e w1 ⟨rfl, hg⟩
      clear c1 c2 c3 c4 c5 c6 c7 c8
      have hg := (G.out.al _).trans hg
      clear G
      obtain ⟨c1, c2, c3, c4, c5, c6, c7, c8⟩ := box4 hg
      have G := Lib.hid hg
      clear hg
      cases rr
      · obtain rfl : false = i := (hi.out rfl).symm
        go_wp2_with fail
        refine (kn_any _).mono ?_
        rintro e w1 ⟨rfl, hg⟩
        clear c1 c2 c3 c4 c5 c6 c7 c8
        have hg := G.out.trans hg
        clear G
        obtain ⟨c1, c2, c3, c4, c5, c6, c7, c8⟩ := box4 hg
        have G := Lib.hid hg
        clear hg
        go_wp2
        go_ret
        exact ⟨rfl, (((((Grows.refl w).al _).al _).al _).al _).trans G.out⟩
      · have T4' := Lib.hid (T4.out rfl)
        have T5' := Lib.hid (T5.out rfl)
        have T6' := Lib.hid (T6.out rfl)
        have O3' := Lib.hid (O3.out rfl)
        have O4' := Lib.hid (O4.out rfl)
        clear T4 T5 T6 O3 O4 hi
        go_wp2_with fail
        refine (kn_any _).mono ?_
        rintro e w1 ⟨rfl, hg⟩
        clear c1 c2 c3 c4 c5 c6 c7 c8
        have hg := G.out.trans hg
        clear G
        obtain ⟨c1, c2, c3, c4, c5, c6, c7, c8⟩ := box4 hg
        have G := Lib.hid hg
        clear hg
        go_wp2_with fail
        refine (T4'.out _).mono ?_
        rintro e w1 ⟨rfl, hg⟩
        clear c1 c2 c3 c4 c5 c6 c7 c8
        have hg := G.out.trans hg
        clear G
        obtain ⟨c1, c2, c3, c4, c5, c6, c7, c8⟩ := box4 hg
        have G := Lib.hid hg
        clear hg
        go_wp2_with fail
        refine (T5'.out _).mono ?_
        rintro e w1 ⟨rfl, hg⟩
        clear c1 c2 c3 c4 c5 c6 c7 c8
        have hg := G.out.trans hg
        clear G
        obtain ⟨c1, c2, c3, c4, c5, c6, c7, c8⟩ := box4 hg
        have G := Lib.hid hg
        clear hg
        go_wp2_with fail
        refine (T6'.out _).mono ?_
        rintro e w1 ⟨rfl, hg⟩
        clear c1 c2 c3 c4 c5 c6 c7 c8
        have hg := G.out.trans hg
        clear G
        obtain ⟨c1, c2, c3, c4, c5, c6, c7, c8⟩ := box4 hg
        have G := Lib.hid hg
        clear hg
        go_wp2_with fail
        refine (O3'.out _).mono ?_
        rintro e w1 ⟨rfl, hg⟩
        clear c1 c2 c3 c4 c5 c6 c7 c8
        have hg := G.out.trans hg
        clear G
        obtain ⟨c1, c2, c3, c4, c5, c6, c7, c8⟩ := box4 hg
        have G := Lib.hid hg
        clear hg
        go_wp2_with fail
        refine (O1.out _).mono ?_
        rintro e w1 ⟨rfl, hg⟩
        clear c1 c2 c3 c4 c5 c6 c7 c8
        have hg := G.out.trans hg
        clear G
        obtain ⟨c1, c2, c3, c4, c5, c6, c7, c8⟩ := box4 hg
        have G := Lib.hid hg
        clear hg
        cases o
        · have O4 := Lib.hid (O4'.out rfl)
          clear O4'
          go_wp2_with fail
          refine (O4.out _).mono ?_
          rintro e w1 ⟨rfl, hg⟩
          clear c1 c2 c3 c4 c5 c6 c7 c8
          have hg := G.out.trans hg
          clear G
          obtain ⟨c1, c2, c3, c4, c5, c6, c7, c8⟩ := box4 hg
          have G := Lib.hid hg
          clear hg
          go_wp2
          go_ret
          exact ⟨rfl, (((((Grows.refl w).al _).al _).al _).al _).trans G.out⟩
        · go_wp2
          go_ret
          exact ⟨rfl, (((((Grows.refl w).al _).al _).al _).al _).trans G.out⟩

theorem law_turns (ax ay bx b_y cx cy px py : Int) (w : World) : Calls Try.prog 7 #[pt ax ay, pt bx b_y, pt cx cy, pt px py] w (Ret (.bool true) w) := by
  obtain ⟨n1, n2⟩ := crossP_bd ax ay bx b_y cx cy
  refine law_turns_core ax ay bx b_y cx cy px py (crossP ax ay bx b_y cx cy) (inP ax ay bx b_y cx cy px py) (onP ax ay bx b_y px py) _ w n1 n2 (Lib.hid (right3 ..)) (Lib.hid fun h => ?_) (Lib.hid (cross_any _ _ _ _ _ _)) (Lib.hid fun w => ?_) (Lib.hid fun w => ?_) (Lib.hid fun w => ?_) (Lib.hid fun w => ?_)
    (Lib.hid (tri_any _ _ _ _ _ _ _ _)) (Lib.hid fun w => ?_) (Lib.hid fun w => ?_) (Lib.hid (on_any _ _ _ _ _ _)) (Lib.hid fun w => ?_) (Lib.hid fun h w => ?_) (Lib.hid fun h w => ?_) (Lib.hid fun h w => ?_) (Lib.hid fun h w => ?_) (Lib.hid fun h ho w => ?_)
  · unfold inP; rw [h]; rfl
  · rw [← crossP_swap]; exact cross_any _ _ _ _ _ _ w
  · rw [← crossP_rot]; exact cross_any _ _ _ _ _ _ w
  · rw [← crossP_rot, ← crossP_rot]; exact cross_any _ _ _ _ _ _ w
  · have := cross_any ax ay bx b_y bx b_y w; rwa [crossP_same] at this
  · rw [← inP_rot]; exact tri_any _ _ _ _ _ _ _ _ w
  · rw [← inP_swap]; exact tri_any _ _ _ _ _ _ _ _ w
  · rw [← onP_comm]; exact on_any _ _ _ _ _ _ w
  · have := tri_any ax ay bx b_y cx cy ax ay w; rwa [(inP_end h).1] at this
  · have := tri_any ax ay bx b_y cx cy bx b_y w; rwa [(inP_end h).2.1] at this
  · have := tri_any ax ay bx b_y cx cy cx cy w; rwa [(inP_end h).2.2] at this
  · simp only [Bool.and_eq_true] at h
    have := on_any ax ay bx b_y bx b_y w; rwa [onP_end h.1.1 h.1.2] at this
  · simp only [Bool.and_eq_true] at h
    have := on_any ax ay ax ay px py w
    have e : onP ax ay ax ay px py = false := by
      cases hx : onP ax ay ax ay px py with
      | false => rfl
      | true =>
        exfalso
        unfold onP at hx
        simp only [Bool.and_eq_true] at hx
        have hy := hx.2
        unfold onB at hy
        rw [if_pos ⟨rfl, rfl⟩, decide_eq_true_iff] at hy
        obtain ⟨rfl, rfl⟩ := hy
        rw [← onP_comm, onP_end h.1.2 h.1.1] at ho
        cases ho
    rwa [e] at this
end Go.Proofs.Ytkedcaplbdhmeaa
