/-
  Layer 1: within a triangle: both whole contracts.
-/
import Derived.Test.YtkedcaplbdhmeaaE6
namespace Go.Proofs.Ytkedcaplbdhmeaa
open Go.RowKit Go.Tab

def inP (ax ay bx b_y cx cy px py : Int) : Bool := mayB ax ay && mayB bx b_y && mayB cx cy && mayB px py && inB ax ay bx b_y cx cy px py

set_option maxHeartbeats 800000 in
theorem rin_any (ax ay bx b_y cx cy px py : Int) (w : World) (ha : mayB ax ay = true) (hb : mayB bx b_y = true) (hc : mayB cx cy = true) (hp : mayB px py = true) :
    Calls Try.prog 21 #[pt ax ay, pt bx b_y, pt cx cy, pt px py] w (Ret (.bool (rinB ax ay bx b_y cx cy px py)) w) := by
  unfold rinB
  have Ho1 := Lib.hid (fun w => ron_any ax ay bx b_y px py w ha hb hp)
  have Ho2 := Lib.hid (fun w => ron_any bx b_y cx cy px py w hb hc hp)
  have Ho3 := Lib.hid (fun w => ron_any cx cy ax ay px py w hc ha hp)
  cases h1 : ronB ax ay bx b_y px py with
  | true =>
    rw [h1] at Ho1
    clear ha hb hc hp h1 Ho2 Ho3
    simp only [Bool.true_or, if_true]
    go_enter Try.func21, Try.ntmps21
    go_wp2_with fail
    refine (Ho1.out _).mono ?_
    rintro e w1 ⟨rfl, hg⟩
    obtain ⟨c1, c2, c3, c4, c5, c6, c7, c8⟩ := box4 hg
    have G0 := Lib.hid hg
    clear hg
    go_wp2
    go_ret
    exact ⟨rfl, (((((Grows.refl w).al _).al _).al _).al _).trans G0.out⟩
  | false =>
    cases h2 : ronB bx b_y cx cy px py with
    | true =>
      rw [h1] at Ho1
      rw [h2] at Ho2
      clear ha hb hc hp h1 h2 Ho3
      simp only [Bool.true_or, Bool.false_or, if_true]
      go_enter Try.func21, Try.ntmps21
      go_wp2_with fail
      refine (Ho1.out _).mono ?_
      rintro e w1 ⟨rfl, hg⟩
      obtain ⟨c1, c2, c3, c4, c5, c6, c7, c8⟩ := box4 hg
      have G0 := Lib.hid hg
      clear hg
      go_wp2_with fail
      refine (Ho2.out _).mono ?_
      rintro e w2 ⟨rfl, hg1⟩
      clear c1 c2 c3 c4 c5 c6 c7 c8
      have G1 := Lib.hid (G0.out.trans hg1)
      clear hg1 G0
      go_wp2
      go_ret
      exact ⟨rfl, (((((Grows.refl w).al _).al _).al _).al _).trans G1.out⟩
    | false =>
      cases h3 : ronB cx cy ax ay px py with
      | true =>
        rw [h1] at Ho1
        rw [h2] at Ho2
        rw [h3] at Ho3
        clear ha hb hc hp h1 h2 h3
        simp only [Bool.false_or, if_true]
        go_enter Try.func21, Try.ntmps21
        go_wp2_with fail
        refine (Ho1.out _).mono ?_
        rintro e w1 ⟨rfl, hg⟩
        obtain ⟨c1, c2, c3, c4, c5, c6, c7, c8⟩ := box4 hg
        have G0 := Lib.hid hg
        clear hg
        go_wp2_with fail
        refine (Ho2.out _).mono ?_
        rintro e w2 ⟨rfl, hg1⟩
        clear c1 c2 c3 c4 c5 c6 c7 c8
        have g1 := G0.out.trans hg1
        obtain ⟨c1, c2, c3, c4, c5, c6, c7, c8⟩ := box4 g1
        have G1 := Lib.hid g1
        clear hg1 G0 g1
        go_wp2_with fail
        refine (Ho3.out _).mono ?_
        rintro e w3 ⟨rfl, hg2⟩
        clear c1 c2 c3 c4 c5 c6 c7 c8
        have G2 := Lib.hid (G1.out.trans hg2)
        clear hg2 G1
        go_wp2
        go_ret
        exact ⟨rfl, (((((Grows.refl w).al _).al _).al _).al _).trans G2.out⟩
      | false =>
        simp only [Bool.false_or, Bool.false_eq_true, if_false]
        exact rin_signs ax ay bx b_y cx cy px py _ _ _ w h1 h2 h3 ha hb hc hp (Lib.hid (fun w => rcross_any' _ _ _ _ _ _ w ha hb hp)) (Lib.hid (fun w => rcross_any' _ _ _ _ _ _ w hb hc hp)) (Lib.hid (fun w => rcross_any' _ _ _ _ _ _ w hc ha hp))

set_option maxHeartbeats 400000 in
theorem tri_no (ax ay bx b_y cx cy px py : Int) (w : World) (h : (mayB ax ay && mayB bx b_y && mayB cx cy && mayB px py) = false) :
    Calls Try.prog 23 #[pt ax ay, pt bx b_y, pt cx cy, pt px py] w (Ret (.bool false) w) := by
  have HR := Lib.hid ((right4 ax ay bx b_y cx cy px py).trans h)
  clear h
  go_enter Try.func23, Try.ntmps23
  go_wp2_with fail
  refine (right_any _ [(ax, ay), (bx, b_y), (cx, cy), (px, py)] _ (ptsAt4 (heap_new _ _ _ (by simp)))).mono ?_
  rintro e w' ⟨rfl, hg⟩
  rw [HR.out]
  have Hg := Lib.hid hg
  clear hg
  go_wp2
  go_ret
  exact ⟨rfl, ((((((Grows.refl w).al _).al _).al _).al _).al _).trans Hg.out⟩

set_option maxHeartbeats 1600000 in
theorem tri_flat (ax ay bx b_y cx cy px py : Int) (o1 o2 o3 : Bool) (w : World) (HR : Hid (rightB [(ax, ay), (bx, b_y), (cx, cy), (px, py)] = true))
    (Ht : Hid (∀ w, Calls Try.prog 18 #[pt ax ay, pt bx b_y, pt cx cy] w (Ret (.int .i64 0) w)))
    (Ho1 : Hid (∀ w, Calls Try.prog 22 #[pt ax ay, pt bx b_y, pt px py] w (Ret (.bool o1) w)))
    (Ho2 : Hid (∀ w, Calls Try.prog 22 #[pt bx b_y, pt cx cy, pt px py] w (Ret (.bool o2) w)))
    (Ho3 : Hid (∀ w, Calls Try.prog 22 #[pt cx cy, pt ax ay, pt px py] w (Ret (.bool o3) w))) :
    Calls Try.prog 23 #[pt ax ay, pt bx b_y, pt cx cy, pt px py] w (Ret (.bool (o1 || o2 || o3)) w) := by
  go_enter Try.func23, Try.ntmps23
  go_wp2_with fail
  refine (right_any _ [(ax, ay), (bx, b_y), (cx, cy), (px, py)] _ (ptsAt4 (heap_new _ _ _ (by simp)))).mono ?_
  rintro e w1 ⟨rfl, hg⟩
  rw [HR.out]
  have g0 := ((Grows.refl _).al _).trans hg
  obtain ⟨c1, c2, c3, c4, c5, c6, c7, c8⟩ := box4 g0
  have G0 := Lib.hid g0
  clear hg g0
  go_wp2_with fail
  refine (Ht.out _).mono ?_
  rintro e w2 ⟨rfl, hg1⟩
  clear c1 c2 c3 c4 c5 c6 c7 c8
  have g1 := G0.out.trans hg1
  obtain ⟨c1, c2, c3, c4, c5, c6, c7, c8⟩ := box4 (g1.al (.cells #[.int .i64 0] 3))
  have G1 := Lib.hid g1
  clear hg1 g1 G0
  go_wp2_with fail
  refine (Ho1.out _).mono ?_
  rintro e w3 ⟨rfl, hg2⟩
  clear c1 c2 c3 c4 c5 c6 c7 c8
  have g2 := (G1.out.al _).trans hg2
  obtain ⟨c1, c2, c3, c4, c5, c6, c7, c8⟩ := box4 g2
  have G2 := Lib.hid g2
  clear hg2 g2 G1
  cases o1
  · go_wp2_with fail
    refine (Ho2.out _).mono ?_
    rintro e w4 ⟨rfl, hg3⟩
    clear c1 c2 c3 c4 c5 c6 c7 c8
    have g3 := G2.out.trans hg3
    obtain ⟨c1, c2, c3, c4, c5, c6, c7, c8⟩ := box4 g3
    have G3 := Lib.hid g3
    clear hg3 g3 G2
    cases o2
    · go_wp2_with fail
      refine (Ho3.out _).mono ?_
      rintro e w5 ⟨rfl, hg4⟩
      clear c1 c2 c3 c4 c5 c6 c7 c8
      have G4 := Lib.hid (G3.out.trans hg4)
      clear hg4 G3
      go_wp2
      go_ret
      exact ⟨rfl, (((((Grows.refl w).al _).al _).al _).al _).trans G4.out⟩
    · go_wp2
      go_ret
      exact ⟨rfl, (((((Grows.refl w).al _).al _).al _).al _).trans G3.out⟩
  · go_wp2
    go_ret
    exact ⟨rfl, (((((Grows.refl w).al _).al _).al _).al _).trans G2.out⟩

theorem inside_is (fx fy tx ty px py way n : Int) (i : Bool) (bp bw : Nat) (w : World) (hn1 : -1 ≤ n) (hn2 : n ≤ 1) (hw1 : -1 ≤ way) (hw2 : way ≤ 1) (hbp : bp < w.heap.size) (hbw : bw < w.heap.size)
    (hp0 : w.cell? ⟨bp, 0, none⟩ = some (.int .i64 px)) (hp1 : w.cell? ⟨bp, 1, none⟩ = some (.int .i64 py)) (hw0 : w.cell? ⟨bw, 0, none⟩ = some (.int .i64 way))
    (Ht : Hid (∀ w, Calls Try.prog 18 #[pt fx fy, pt tx ty, pt px py] w (Ret (.int .i64 n) w))) (hi : Hid (decide (0 ≤ n * way) = i)) :
    Calls Try.prog 33 #[pt fx fy, pt tx ty, .pointer (some ⟨bp, 0, none⟩), .pointer (some ⟨bw, 0, none⟩)] w (Ret (.bool i) w) := by
  have := inside_any fx fy tx ty px py way n bp bw w hn1 hn2 hw1 hw2 hbp hbw hp0 hp1 hw0 Ht
  rwa [hi.out] at this

set_option maxHeartbeats 1600000 in
theorem tri_full (ax ay bx b_y cx cy px py n1 n2 n3 way : Int) (i1 i2 i3 : Bool) (w : World) (I1 : Hid (decide (0 ≤ n1 * way) = i1)) (I2 : Hid (decide (0 ≤ n2 * way) = i2)) (I3 : Hid (decide (0 ≤ n3 * way) = i3)) (HR : Hid (rightB [(ax, ay), (bx, b_y), (cx, cy), (px, py)] = true))
    (hw0 : way ≠ 0) (hw1 : -1 ≤ way) (hw2 : way ≤ 1) (a1 : -1 ≤ n1) (a2 : n1 ≤ 1) (b1 : -1 ≤ n2) (b2 : n2 ≤ 1) (k1 : -1 ≤ n3) (k2 : n3 ≤ 1)
    (Ht : Hid (∀ w, Calls Try.prog 18 #[pt ax ay, pt bx b_y, pt cx cy] w (Ret (.int .i64 way) w)))
    (Ho1 : Hid (∀ w, Calls Try.prog 18 #[pt ax ay, pt bx b_y, pt px py] w (Ret (.int .i64 n1) w)))
    (Ho2 : Hid (∀ w, Calls Try.prog 18 #[pt bx b_y, pt cx cy, pt px py] w (Ret (.int .i64 n2) w)))
    (Ho3 : Hid (∀ w, Calls Try.prog 18 #[pt cx cy, pt ax ay, pt px py] w (Ret (.int .i64 n3) w))) :
    Calls Try.prog 23 #[pt ax ay, pt bx b_y, pt cx cy, pt px py] w (Ret (.bool (i1 && i2 && i3)) w) := by
  have hmf : ∀ (fn : Fn) (first cap : Array Value) (w : World), (Instr.makeFunc fn first cap).run Try.prog w = .ok (.func fn first cap) w := fun _ _ _ _ => rfl
  go_enter Try.func23, Try.ntmps23
  go_wp2_with fail
  refine (right_any _ [(ax, ay), (bx, b_y), (cx, cy), (px, py)] _ (ptsAt4 (heap_new _ _ _ (by simp)))).mono ?_
  rintro e w1 ⟨rfl, hg⟩
  rw [HR.out]
  have g0 := ((Grows.refl _).al _).trans hg
  obtain ⟨c1, c2, c3, c4, c5, c6, c7, c8⟩ := box4 g0
  have G0 := Lib.hid g0
  clear hg g0
  go_wp2_with fail
  refine (Ht.out _).mono ?_
  rintro e w2 ⟨rfl, hg1⟩
  clear c1 c2 c3 c4 c5 c6 c7 c8
  have g1 := G0.out.trans hg1
  obtain ⟨c1, c2, c3, c4, c5, c6, c7, c8⟩ := box4 (g1.al (.cells #[.int .i64 way] 3))
  have G1 := Lib.hid g1
  clear hg1 g1 G0
  have d1 : (w2.alloc (.cells #[.int .i64 way] 3)).cell? ⟨w2.heap.size, 0, none⟩ = some (.int .i64 way) := by simp
  have s1 := G1.out.size
  simp only [World.size_alloc] at s1
  go_wp2_with fail
  refine (inside_is ax ay bx b_y px py way n1 i1 _ _ _ a1 a2 hw1 hw2 (by simp only [World.size_alloc]; omega) (by simp only [World.size_alloc]; omega) c7 c8 d1 Ho1 I1).mono ?_
  rintro e w3 ⟨rfl, hg2⟩
  clear c1 c2 c3 c4 c5 c6 c7 c8
  have g2 := (G1.out.al _).trans hg2
  obtain ⟨c1, c2, c3, c4, c5, c6, c7, c8⟩ := box4 g2
  have d2 := (hg2.old.1 w2.heap.size 0 (by simp only [World.size_alloc]; omega)).trans d1
  have s2 := hg2.size
  simp only [World.size_alloc] at s2
  have G2 := Lib.hid g2
  clear hg2 g2 G1 d1
  cases i1
  · go_wp2
    go_ret
    exact ⟨rfl, (((((Grows.refl w).al _).al _).al _).al _).trans G2.out⟩
  · go_wp2_with fail
    refine (inside_is bx b_y cx cy px py way n2 i2 _ _ _ b1 b2 hw1 hw2 (by omega) (by omega) c7 c8 d2 Ho2 I2).mono ?_
    rintro e w4 ⟨rfl, hg3⟩
    clear c1 c2 c3 c4 c5 c6 c7 c8
    have g3 := G2.out.trans hg3
    obtain ⟨c1, c2, c3, c4, c5, c6, c7, c8⟩ := box4 g3
    have d3 := (hg3.old.1 w2.heap.size 0 (by omega)).trans d2
    have s3 := hg3.size
    have G3 := Lib.hid g3
    clear hg3 g3 G2 d2
    cases i2
    · go_wp2
      go_ret
      exact ⟨rfl, (((((Grows.refl w).al _).al _).al _).al _).trans G3.out⟩
    · go_wp2_with fail
      refine (inside_is cx cy ax ay px py way n3 i3 _ _ _ k1 k2 hw1 hw2 (by omega) (by omega) c7 c8 d3 Ho3 I3).mono ?_
      rintro e w5 ⟨rfl, hg4⟩
      clear c1 c2 c3 c4 c5 c6 c7 c8
      have G4 := Lib.hid (G3.out.trans hg4)
      clear hg4 G3
      go_wp2
      go_ret
      exact ⟨rfl, (((((Grows.refl w).al _).al _).al _).al _).trans G4.out⟩

theorem turn_yes (ax ay bx b_y cx cy : Int) (w : World) (ha : mayB ax ay = true) (hb : mayB bx b_y = true) (hc : mayB cx cy = true) :
    Calls Try.prog 18 #[pt ax ay, pt bx b_y, pt cx cy] w (Ret (.int .i64 (signI (crossI ax ay bx b_y cx cy))) w) := by
  have := turn_any ax ay bx b_y cx cy w
  unfold crossP at this
  rwa [if_pos (by simp [ha, hb, hc])] at this
theorem on_may (ax ay bx b_y cx cy : Int) (w : World) (ha : mayB ax ay = true) (hb : mayB bx b_y = true) (hc : mayB cx cy = true) :
    Calls Try.prog 22 #[pt ax ay, pt bx b_y, pt cx cy] w (Ret (.bool (onB ax ay bx b_y cx cy)) w) := by
  have := on_any ax ay bx b_y cx cy w
  unfold onP at this
  rwa [ha, hb, hc] at this

theorem tri_any (ax ay bx b_y cx cy px py : Int) (w : World) :
    Calls Try.prog 23 #[pt ax ay, pt bx b_y, pt cx cy, pt px py] w (Ret (.bool (inP ax ay bx b_y cx cy px py)) w) := by
  cases h : (mayB ax ay && mayB bx b_y && mayB cx cy && mayB px py) with
  | false =>
    have := tri_no ax ay bx b_y cx cy px py w h
    unfold inP; rw [h]; exact this
  | true =>
    have e : inP ax ay bx b_y cx cy px py = inB ax ay bx b_y cx cy px py := by unfold inP; rw [h]; rfl
    have HR := Lib.hid ((right4 ax ay bx b_y cx cy px py).trans h)
    simp only [Bool.and_eq_true] at h
    obtain ⟨⟨⟨ha, hb⟩, hc⟩, hp⟩ := h
    rw [e]
    unfold inB
    by_cases hD : crossI ax ay bx b_y cx cy = 0
    · rw [if_pos hD]
      have Ht := fun w => turn_yes ax ay bx b_y cx cy w ha hb hc
      rw [sign_zero.2 hD] at Ht
      exact tri_flat ax ay bx b_y cx cy px py _ _ _ w HR (Lib.hid Ht) (Lib.hid fun w => on_may _ _ _ _ _ _ w ha hb hp) (Lib.hid fun w => on_may _ _ _ _ _ _ w hb hc hp) (Lib.hid fun w => on_may _ _ _ _ _ _ w hc ha hp)
    · rw [if_neg hD]
      exact tri_full ax ay bx b_y cx cy px py _ _ _ _ _ _ _ w (Lib.hid rfl) (Lib.hid rfl) (Lib.hid rfl) HR (fun h0 => hD (sign_zero.1 h0)) (sign_bd _).1 (sign_bd _).2 (sign_bd _).1 (sign_bd _).2 (sign_bd _).1 (sign_bd _).2 (sign_bd _).1 (sign_bd _).2
        (Lib.hid fun w => turn_yes _ _ _ _ _ _ w ha hb hc) (Lib.hid fun w => turn_yes _ _ _ _ _ _ w ha hb hp) (Lib.hid fun w => turn_yes _ _ _ _ _ _ w hb hc hp) (Lib.hid fun w => turn_yes _ _ _ _ _ _ w hc ha hp)
end Go.Proofs.Ytkedcaplbdhmeaa
