/-
  The law on moves: what may not be, and the whole.
-/
import Derived.Test.YtkedcaplbdhmeaaL5
namespace Go.Proofs.Ytkedcaplbdhmeaa
open Go.RowKit Go.Tab

theorem grows_dN {w a : World} {n : Nat} (h : Grows w a) : Grows w (a.drewN n) := h.trans ⟨rfl, rfl, rfl, Nat.le_refl _, fun _ _ => rfl⟩

set_option maxRecDepth 100000 in
set_option maxHeartbeats 4000000 in
theorem moves_big00 (ax ay bx b_y cx cy px py tx ty : Int) (w : World) (s01 : decide (4194304 < max ax ay) = true) :
    Calls Try.prog 8 #[pt ax ay, pt bx b_y, pt cx cy, pt px py, pt tx ty] w (Ret (.bool true) w) := by
  have hmx : ∀ a b : Int, (if a < b then b else a) = max a b := fun a b => by omega
  have hmn : ∀ a b : Int, (if b < a then b else a) = min a b := fun a b => by omega
  go_enter Try.func8, Try.ntmps8
  go_wp2
  refine wp_loop_rounds 6 ?_; rw [rounds_succ]
  go_wp2
  go_quiet (fail)
  go_wp2_with fail
  refine (kn_any _).mono ?_
  rintro e w1 ⟨rfl, hg⟩
  have G := Lib.hid hg
  clear hg
  go_wp2
  go_ret
  exact ⟨rfl, (grows_dN (((((((Grows.refl w).al _).al _).al _).al _).al _).al _)).trans G.out⟩

set_option maxRecDepth 100000 in
set_option maxHeartbeats 4000000 in
theorem moves_big01 (ax ay bx b_y cx cy px py tx ty : Int) (w : World) (s01 : decide (4194304 < max ax ay) = false) (s02 : decide (min ax ay < -4194304) = true) :
    Calls Try.prog 8 #[pt ax ay, pt bx b_y, pt cx cy, pt px py, pt tx ty] w (Ret (.bool true) w) := by
  have hmx : ∀ a b : Int, (if a < b then b else a) = max a b := fun a b => by omega
  have hmn : ∀ a b : Int, (if b < a then b else a) = min a b := fun a b => by omega
  go_enter Try.func8, Try.ntmps8
  go_wp2
  refine wp_loop_rounds 6 ?_; rw [rounds_succ]
  go_wp2
  go_quiet (fail)
  go_wp2_with fail
  refine (kn_any _).mono ?_
  rintro e w1 ⟨rfl, hg⟩
  have G := Lib.hid hg
  clear hg
  go_wp2
  go_ret
  exact ⟨rfl, (grows_dN (((((((Grows.refl w).al _).al _).al _).al _).al _).al _)).trans G.out⟩

set_option maxRecDepth 100000 in
set_option maxHeartbeats 4000000 in
theorem moves_big10 (ax ay bx b_y cx cy px py tx ty : Int) (w : World) (s01 : decide (4194304 < max ax ay) = false) (s02 : decide (min ax ay < -4194304) = false) (s11 : decide (4194304 < max bx b_y) = true) :
    Calls Try.prog 8 #[pt ax ay, pt bx b_y, pt cx cy, pt px py, pt tx ty] w (Ret (.bool true) w) := by
  have hmx : ∀ a b : Int, (if a < b then b else a) = max a b := fun a b => by omega
  have hmn : ∀ a b : Int, (if b < a then b else a) = min a b := fun a b => by omega
  go_enter Try.func8, Try.ntmps8
  go_wp2
  refine wp_loop_rounds 6 ?_; rw [rounds_succ]
  go_wp2
  go_quiet (fail)
  go_wp2
  rw [rounds_succ]
  go_wp2
  go_quiet (fail)
  go_wp2_with fail
  refine (kn_any _).mono ?_
  rintro e w1 ⟨rfl, hg⟩
  have G := Lib.hid hg
  clear hg
  go_wp2
  go_ret
  exact ⟨rfl, (grows_dN (((((((Grows.refl w).al _).al _).al _).al _).al _).al _)).trans G.out⟩

set_option maxRecDepth 100000 in
set_option maxHeartbeats 4000000 in
theorem moves_big11 (ax ay bx b_y cx cy px py tx ty : Int) (w : World) (s01 : decide (4194304 < max ax ay) = false) (s02 : decide (min ax ay < -4194304) = false) (s11 : decide (4194304 < max bx b_y) = false) (s12 : decide (min bx b_y < -4194304) = true) :
    Calls Try.prog 8 #[pt ax ay, pt bx b_y, pt cx cy, pt px py, pt tx ty] w (Ret (.bool true) w) := by
  have hmx : ∀ a b : Int, (if a < b then b else a) = max a b := fun a b => by omega
  have hmn : ∀ a b : Int, (if b < a then b else a) = min a b := fun a b => by omega
  go_enter Try.func8, Try.ntmps8
  go_wp2
  refine wp_loop_rounds 6 ?_; rw [rounds_succ]
  go_wp2
  go_quiet (fail)
  go_wp2
  rw [rounds_succ]
  go_wp2
  go_quiet (fail)
  go_wp2_with fail
  refine (kn_any _).mono ?_
  rintro e w1 ⟨rfl, hg⟩
  have G := Lib.hid hg
  clear hg
  go_wp2
  go_ret
  exact ⟨rfl, (grows_dN (((((((Grows.refl w).al _).al _).al _).al _).al _).al _)).trans G.out⟩

set_option maxRecDepth 100000 in
set_option maxHeartbeats 4000000 in
theorem moves_big20 (ax ay bx b_y cx cy px py tx ty : Int) (w : World) (s01 : decide (4194304 < max ax ay) = false) (s02 : decide (min ax ay < -4194304) = false) (s11 : decide (4194304 < max bx b_y) = false) (s12 : decide (min bx b_y < -4194304) = false) (s21 : decide (4194304 < max cx cy) = true) :
    Calls Try.prog 8 #[pt ax ay, pt bx b_y, pt cx cy, pt px py, pt tx ty] w (Ret (.bool true) w) := by
  have hmx : ∀ a b : Int, (if a < b then b else a) = max a b := fun a b => by omega
  have hmn : ∀ a b : Int, (if b < a then b else a) = min a b := fun a b => by omega
  go_enter Try.func8, Try.ntmps8
  go_wp2
  refine wp_loop_rounds 6 ?_; rw [rounds_succ]
  go_wp2
  go_quiet (fail)
  go_wp2
  rw [rounds_succ]
  go_wp2
  go_quiet (fail)
  go_wp2
  rw [rounds_succ]
  go_wp2
  go_quiet (fail)
  go_wp2_with fail
  refine (kn_any _).mono ?_
  rintro e w1 ⟨rfl, hg⟩
  have G := Lib.hid hg
  clear hg
  go_wp2
  go_ret
  exact ⟨rfl, (grows_dN (((((((Grows.refl w).al _).al _).al _).al _).al _).al _)).trans G.out⟩

set_option maxRecDepth 100000 in
set_option maxHeartbeats 4000000 in
theorem moves_big21 (ax ay bx b_y cx cy px py tx ty : Int) (w : World) (s01 : decide (4194304 < max ax ay) = false) (s02 : decide (min ax ay < -4194304) = false) (s11 : decide (4194304 < max bx b_y) = false) (s12 : decide (min bx b_y < -4194304) = false) (s21 : decide (4194304 < max cx cy) = false) (s22 : decide (min cx cy < -4194304) = true) :
    Calls Try.prog 8 #[pt ax ay, pt bx b_y, pt cx cy, pt px py, pt tx ty] w (Ret (.bool true) w) := by
  have hmx : ∀ a b : Int, (if a < b then b else a) = max a b := fun a b => by omega
  have hmn : ∀ a b : Int, (if b < a then b else a) = min a b := fun a b => by omega
  go_enter Try.func8, Try.ntmps8
  go_wp2
  refine wp_loop_rounds 6 ?_; rw [rounds_succ]
  go_wp2
  go_quiet (fail)
  go_wp2
  rw [rounds_succ]
  go_wp2
  go_quiet (fail)
  go_wp2
  rw [rounds_succ]
  go_wp2
  go_quiet (fail)
  go_wp2_with fail
  refine (kn_any _).mono ?_
  rintro e w1 ⟨rfl, hg⟩
  have G := Lib.hid hg
  clear hg
  go_wp2
  go_ret
  exact ⟨rfl, (grows_dN (((((((Grows.refl w).al _).al _).al _).al _).al _).al _)).trans G.out⟩

set_option maxRecDepth 100000 in
set_option maxHeartbeats 4000000 in
theorem moves_big30 (ax ay bx b_y cx cy px py tx ty : Int) (w : World) (s01 : decide (4194304 < max ax ay) = false) (s02 : decide (min ax ay < -4194304) = false) (s11 : decide (4194304 < max bx b_y) = false) (s12 : decide (min bx b_y < -4194304) = false) (s21 : decide (4194304 < max cx cy) = false) (s22 : decide (min cx cy < -4194304) = false) (s31 : decide (4194304 < max px py) = true) :
    Calls Try.prog 8 #[pt ax ay, pt bx b_y, pt cx cy, pt px py, pt tx ty] w (Ret (.bool true) w) := by
  have hmx : ∀ a b : Int, (if a < b then b else a) = max a b := fun a b => by omega
  have hmn : ∀ a b : Int, (if b < a then b else a) = min a b := fun a b => by omega
  go_enter Try.func8, Try.ntmps8
  go_wp2
  refine wp_loop_rounds 6 ?_; rw [rounds_succ]
  go_wp2
  go_quiet (fail)
  go_wp2
  rw [rounds_succ]
  go_wp2
  go_quiet (fail)
  go_wp2
  rw [rounds_succ]
  go_wp2
  go_quiet (fail)
  go_wp2
  rw [rounds_succ]
  go_wp2
  go_quiet (fail)
  go_wp2_with fail
  refine (kn_any _).mono ?_
  rintro e w1 ⟨rfl, hg⟩
  have G := Lib.hid hg
  clear hg
  go_wp2
  go_ret
  exact ⟨rfl, (grows_dN (((((((Grows.refl w).al _).al _).al _).al _).al _).al _)).trans G.out⟩

set_option maxRecDepth 100000 in
set_option maxHeartbeats 4000000 in
theorem moves_big31 (ax ay bx b_y cx cy px py tx ty : Int) (w : World) (s01 : decide (4194304 < max ax ay) = false) (s02 : decide (min ax ay < -4194304) = false) (s11 : decide (4194304 < max bx b_y) = false) (s12 : decide (min bx b_y < -4194304) = false) (s21 : decide (4194304 < max cx cy) = false) (s22 : decide (min cx cy < -4194304) = false) (s31 : decide (4194304 < max px py) = false) (s32 : decide (min px py < -4194304) = true) :
    Calls Try.prog 8 #[pt ax ay, pt bx b_y, pt cx cy, pt px py, pt tx ty] w (Ret (.bool true) w) := by
  have hmx : ∀ a b : Int, (if a < b then b else a) = max a b := fun a b => by omega
  have hmn : ∀ a b : Int, (if b < a then b else a) = min a b := fun a b => by omega
  go_enter Try.func8, Try.ntmps8
  go_wp2
  refine wp_loop_rounds 6 ?_; rw [rounds_succ]
  go_wp2
  go_quiet (fail)
  go_wp2
  rw [rounds_succ]
  go_wp2
  go_quiet (fail)
  go_wp2
  rw [rounds_succ]
  go_wp2
  go_quiet (fail)
  go_wp2
  rw [rounds_succ]
  go_wp2
  go_quiet (fail)
  go_wp2_with fail
  refine (kn_any _).mono ?_
  rintro e w1 ⟨rfl, hg⟩
  have G := Lib.hid hg
  clear hg
  go_wp2
  go_ret
  exact ⟨rfl, (grows_dN (((((((Grows.refl w).al _).al _).al _).al _).al _).al _)).trans G.out⟩

set_option maxRecDepth 100000 in
set_option maxHeartbeats 4000000 in
theorem moves_big40 (ax ay bx b_y cx cy px py tx ty : Int) (w : World) (s01 : decide (4194304 < max ax ay) = false) (s02 : decide (min ax ay < -4194304) = false) (s11 : decide (4194304 < max bx b_y) = false) (s12 : decide (min bx b_y < -4194304) = false) (s21 : decide (4194304 < max cx cy) = false) (s22 : decide (min cx cy < -4194304) = false) (s31 : decide (4194304 < max px py) = false) (s32 : decide (min px py < -4194304) = false) (s41 : decide (4194304 < max tx ty) = true) :
    Calls Try.prog 8 #[pt ax ay, pt bx b_y, pt cx cy, pt px py, pt tx ty] w (Ret (.bool true) w) := by
  have hmx : ∀ a b : Int, (if a < b then b else a) = max a b := fun a b => by omega
  have hmn : ∀ a b : Int, (if b < a then b else a) = min a b := fun a b => by omega
  go_enter Try.func8, Try.ntmps8
  go_wp2
  refine wp_loop_rounds 6 ?_; rw [rounds_succ]
  go_wp2
  go_quiet (fail)
  go_wp2
  rw [rounds_succ]
  go_wp2
  go_quiet (fail)
  go_wp2
  rw [rounds_succ]
  go_wp2
  go_quiet (fail)
  go_wp2
  rw [rounds_succ]
  go_wp2
  go_quiet (fail)
  go_wp2
  rw [rounds_succ]
  go_wp2
  go_quiet (fail)
  go_wp2_with fail
  refine (kn_any _).mono ?_
  rintro e w1 ⟨rfl, hg⟩
  have G := Lib.hid hg
  clear hg
  go_wp2
  go_ret
  exact ⟨rfl, (grows_dN (((((((Grows.refl w).al _).al _).al _).al _).al _).al _)).trans G.out⟩

set_option maxRecDepth 100000 in
set_option maxHeartbeats 4000000 in
theorem moves_big41 (ax ay bx b_y cx cy px py tx ty : Int) (w : World) (s01 : decide (4194304 < max ax ay) = false) (s02 : decide (min ax ay < -4194304) = false) (s11 : decide (4194304 < max bx b_y) = false) (s12 : decide (min bx b_y < -4194304) = false) (s21 : decide (4194304 < max cx cy) = false) (s22 : decide (min cx cy < -4194304) = false) (s31 : decide (4194304 < max px py) = false) (s32 : decide (min px py < -4194304) = false) (s41 : decide (4194304 < max tx ty) = false) (s42 : decide (min tx ty < -4194304) = true) :
    Calls Try.prog 8 #[pt ax ay, pt bx b_y, pt cx cy, pt px py, pt tx ty] w (Ret (.bool true) w) := by
  have hmx : ∀ a b : Int, (if a < b then b else a) = max a b := fun a b => by omega
  have hmn : ∀ a b : Int, (if b < a then b else a) = min a b := fun a b => by omega
  go_enter Try.func8, Try.ntmps8
  go_wp2
  refine wp_loop_rounds 6 ?_; rw [rounds_succ]
  go_wp2
  go_quiet (fail)
  go_wp2
  rw [rounds_succ]
  go_wp2
  go_quiet (fail)
  go_wp2
  rw [rounds_succ]
  go_wp2
  go_quiet (fail)
  go_wp2
  rw [rounds_succ]
  go_wp2
  go_quiet (fail)
  go_wp2
  rw [rounds_succ]
  go_wp2
  go_quiet (fail)
  go_wp2_with fail
  refine (kn_any _).mono ?_
  rintro e w1 ⟨rfl, hg⟩
  have G := Lib.hid hg
  clear hg
  go_wp2
  go_ret
  exact ⟨rfl, (grows_dN (((((((Grows.refl w).al _).al _).al _).al _).al _).al _)).trans G.out⟩

theorem may_of {x y : Int} (h : -8388608 ≤ x ∧ x ≤ 8388608 ∧ -8388608 ≤ y ∧ y ≤ 8388608) : mayB x y = true := mayB_iff.2 (by omega)
theorem crossI_move (ax ay bx b_y cx cy tx ty : Int) : crossI (ax + tx) (ay + ty) (bx + tx) (b_y + ty) (cx + tx) (cy + ty) = crossI ax ay bx b_y cx cy := by unfold crossI; grind
theorem onB_move (ax ay bx b_y px py tx ty : Int) : onB (ax + tx) (ay + ty) (bx + tx) (b_y + ty) (px + tx) (py + ty) = onB ax ay bx b_y px py := by
  unfold onB
  rw [crossI_move]
  have e1 : betwB (ax + tx) (bx + tx) (px + tx) = betwB ax bx px := by unfold betwB; rw [Bool.eq_iff_iff]; simp only [decide_eq_true_eq]; omega
  have e2 : betwB (ay + ty) (b_y + ty) (py + ty) = betwB ay b_y py := by unfold betwB; rw [Bool.eq_iff_iff]; simp only [decide_eq_true_eq]; omega
  rw [e1, e2]
  by_cases h : ax = bx ∧ ay = b_y
  · rw [if_pos h, if_pos (by omega), Bool.eq_iff_iff]; simp only [decide_eq_true_eq]; omega
  · rw [if_neg h, if_neg (by omega)]
theorem inB_move (ax ay bx b_y cx cy px py tx ty : Int) : inB (ax + tx) (ay + ty) (bx + tx) (b_y + ty) (cx + tx) (cy + ty) (px + tx) (py + ty) = inB ax ay bx b_y cx cy px py := by
  unfold inB
  rw [crossI_move, crossI_move, crossI_move, crossI_move, onB_move, onB_move, onB_move]
theorem lessB_move (ax ay bx b_y tx ty : Int) : lessB (ax + tx) (ay + ty) (bx + tx) (b_y + ty) = lessB ax ay bx b_y := by
  unfold lessB
  rw [Bool.eq_iff_iff]
  by_cases h : ax = bx
  · rw [if_pos h, if_pos (by omega)]; simp only [decide_eq_true_eq]; omega
  · rw [if_neg h, if_neg (by omega)]; simp only [decide_eq_true_eq]; omega
theorem crossP_may {ax ay bx b_y cx cy : Int} (ha : mayB ax ay = true) (hb : mayB bx b_y = true) (hc : mayB cx cy = true) : crossP ax ay bx b_y cx cy = crossI ax ay bx b_y cx cy := by
  unfold crossP; rw [if_pos (by simp [ha, hb, hc])]
theorem onP_may {ax ay bx b_y cx cy : Int} (ha : mayB ax ay = true) (hb : mayB bx b_y = true) (hc : mayB cx cy = true) : onP ax ay bx b_y cx cy = onB ax ay bx b_y cx cy := by
  unfold onP; rw [ha, hb, hc]; rfl
theorem inP_may {ax ay bx b_y cx cy px py : Int} (ha : mayB ax ay = true) (hb : mayB bx b_y = true) (hc : mayB cx cy = true) (hp : mayB px py = true) : inP ax ay bx b_y cx cy px py = inB ax ay bx b_y cx cy px py := by
  unfold inP; rw [ha, hb, hc, hp]; rfl

theorem law_moves (ax ay bx b_y cx cy px py tx ty : Int) (w : World) : Calls Try.prog 8 #[pt ax ay, pt bx b_y, pt cx cy, pt px py, pt tx ty] w (Ret (.bool true) w) := by
  cases s01 : decide (4194304 < max ax ay) with
  | true => exact moves_big00 ax ay bx b_y cx cy px py tx ty w  s01
  | false =>
  cases s02 : decide (min ax ay < -4194304) with
  | true => exact moves_big01 ax ay bx b_y cx cy px py tx ty w  s01 s02
  | false =>
  cases s11 : decide (4194304 < max bx b_y) with
  | true => exact moves_big10 ax ay bx b_y cx cy px py tx ty w s01 s02 s11
  | false =>
  cases s12 : decide (min bx b_y < -4194304) with
  | true => exact moves_big11 ax ay bx b_y cx cy px py tx ty w s01 s02 s11 s12
  | false =>
  cases s21 : decide (4194304 < max cx cy) with
  | true => exact moves_big20 ax ay bx b_y cx cy px py tx ty w s01 s02 s11 s12 s21
  | false =>
  cases s22 : decide (min cx cy < -4194304) with
  | true => exact moves_big21 ax ay bx b_y cx cy px py tx ty w s01 s02 s11 s12 s21 s22
  | false =>
  cases s31 : decide (4194304 < max px py) with
  | true => exact moves_big30 ax ay bx b_y cx cy px py tx ty w s01 s02 s11 s12 s21 s22 s31
  | false =>
  cases s32 : decide (min px py < -4194304) with
  | true => exact moves_big31 ax ay bx b_y cx cy px py tx ty w s01 s02 s11 s12 s21 s22 s31 s32
  | false =>
  cases s41 : decide (4194304 < max tx ty) with
  | true => exact moves_big40 ax ay bx b_y cx cy px py tx ty w s01 s02 s11 s12 s21 s22 s31 s32 s41
  | false =>
  cases s42 : decide (min tx ty < -4194304) with
  | true => exact moves_big41 ax ay bx b_y cx cy px py tx ty w s01 s02 s11 s12 s21 s22 s31 s32 s41 s42
  | false =>
  have r0 := small_of s01 s02
  have r1 := small_of s11 s12
  have r2 := small_of s21 s22
  have r3 := small_of s31 s32
  have r4 := small_of s41 s42
  have m0 : mayB ax ay = true := may_of (by omega)
  have k0 : mayB (ax + tx) (ay + ty) = true := may_of (by omega)
  have m1 : mayB bx b_y = true := may_of (by omega)
  have k1 : mayB (bx + tx) (b_y + ty) = true := may_of (by omega)
  have m2 : mayB cx cy = true := may_of (by omega)
  have k2 : mayB (cx + tx) (cy + ty) = true := may_of (by omega)
  have m3 : mayB px py = true := may_of (by omega)
  have k3 : mayB (px + tx) (py + ty) = true := may_of (by omega)
  refine moves_small ax ay bx b_y cx cy px py tx ty (crossI ax ay bx b_y cx cy) (signI (crossI ax ay bx b_y px py)) (onB ax ay bx b_y px py) (inB ax ay bx b_y cx cy px py) (lessB ax ay bx b_y) w s01 s02 s11 s12 s21 s22 s31 s32 s41 s42
    (Lib.hid fun w => ?_) (Lib.hid fun w => ?_) (Lib.hid fun w => ?_) (Lib.hid fun w => ?_) (Lib.hid fun w => ?_) (Lib.hid fun w => ?_) (Lib.hid fun w => ?_) (Lib.hid fun w => ?_) (Lib.hid fun w => ?_) (Lib.hid fun w => ?_)
  · have := cross_any (ax + tx) (ay + ty) (bx + tx) (b_y + ty) (cx + tx) (cy + ty) w; rwa [crossP_may k0 k1 k2, crossI_move] at this
  · have := cross_any ax ay bx b_y cx cy w; rwa [crossP_may m0 m1 m2] at this
  · have := turn_any (ax + tx) (ay + ty) (bx + tx) (b_y + ty) (px + tx) (py + ty) w; rwa [crossP_may k0 k1 k3, crossI_move] at this
  · have := turn_any ax ay bx b_y px py w; rwa [crossP_may m0 m1 m3] at this
  · have := on_any (ax + tx) (ay + ty) (bx + tx) (b_y + ty) (px + tx) (py + ty) w; rwa [onP_may k0 k1 k3, onB_move] at this
  · have := on_any ax ay bx b_y px py w; rwa [onP_may m0 m1 m3] at this
  · have := tri_any (ax + tx) (ay + ty) (bx + tx) (b_y + ty) (cx + tx) (cy + ty) (px + tx) (py + ty) w; rwa [inP_may k0 k1 k2 k3, inB_move] at this
  · have := tri_any ax ay bx b_y cx cy px py w; rwa [inP_may m0 m1 m2 m3] at this
  · have := less_any (ax + tx) (ay + ty) (bx + tx) (b_y + ty) w; rwa [lessB_move] at this
  · exact less_any ax ay bx b_y w
end Go.Proofs.Ytkedcaplbdhmeaa
