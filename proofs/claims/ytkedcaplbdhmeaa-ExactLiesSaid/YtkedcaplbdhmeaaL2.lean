/-
  The law on who lies where.
-/
import Derived.Test.YtkedcaplbdhmeaaL1
namespace Go.Proofs.Ytkedcaplbdhmeaa
open Go.RowKit Go.Tab

set_option maxRecDepth 100000 in
set_option maxHeartbeats 1600000 in
theorem law_lies_core (ax ay bx b_y cx cy px py : Int) (r3 r4 on inn : Bool) (w : World) (h3 : Hid (r3 = false → on = false)) (h4 : Hid (r4 = false → inn = false))
    (A3 : Hid (rightB [(ax, ay), (bx, b_y), (px, py)] = r3)) (A4 : Hid (rightB [(ax, ay), (bx, b_y), (cx, cy), (px, py)] = r4))
    (R3 : Hid (r3 = true → ∀ w, Calls Try.prog 20 #[pt ax ay, pt bx b_y, pt px py] w (Ret (.bool on) w)))
    (R4 : Hid (r4 = true → ∀ w, Calls Try.prog 21 #[pt ax ay, pt bx b_y, pt cx cy, pt px py] w (Ret (.bool inn) w)))
    (H3 : Hid (∀ w, Calls Try.prog 22 #[pt ax ay, pt bx b_y, pt px py] w (Ret (.bool on) w)))
    (H4 : Hid (∀ w, Calls Try.prog 23 #[pt ax ay, pt bx b_y, pt cx cy, pt px py] w (Ret (.bool inn) w))) :
    Calls Try.prog 4 #[pt ax ay, pt bx b_y, pt cx cy, pt px py] w (Ret (.bool true) w) := by
  go_enter Try.func4, Try.ntmps4
  go_wp2
  refine wp_region_tab 12 (by kernel_rfl) (by kernel_rfl) ?_
  intro w0 hw0 hg1 hg1'
  simp only [List.take_succ_cons, List.take_zero, List.drop_succ_cons, List.drop_zero]
  · 
    refine tab_val (pt ax ay) (fun r w1 hr hg hA => by obtain ⟨q0, -⟩ := hA; have q0e : r (.tmp 4) = .pointer (some ⟨w.heap.size, 0, none⟩) := q0; have hc := box4 (hg1.trans hg); exact ⟨rfl, by simp [go_sem, hr.const, hr.glob, q0e, hc]⟩) ?_
    refine tab_call (v := pt ax ay) (fun w1 hg => of_any ax ay w1) (fun r w1 hr hg hA => by obtain ⟨⟨_, q0⟩, -⟩ := hA; have q0e : r (.tmp 15) = pt ax ay := q0; exact ⟨rfl, by simp [go_sem, hr.const, hr.func, q0e]⟩) ?_
    refine tab_val (pt bx b_y) (fun r w1 hr hg hA => by obtain ⟨q0, -⟩ := hA; have q0e : r (.tmp 5) = .pointer (some ⟨w.heap.size + 1, 0, none⟩) := q0; have hc := box4 (hg1.trans hg); exact ⟨rfl, by simp [go_sem, hr.const, hr.glob, q0e, hc]⟩) ?_
    refine tab_call (v := pt bx b_y) (fun w1 hg => of_any bx b_y w1) (fun r w1 hr hg hA => by obtain ⟨⟨_, q0⟩, -⟩ := hA; have q0e : r (.tmp 17) = pt bx b_y := q0; exact ⟨rfl, by simp [go_sem, hr.const, hr.func, q0e]⟩) ?_
    refine tab_val (pt cx cy) (fun r w1 hr hg hA => by obtain ⟨q0, -⟩ := hA; have q0e : r (.tmp 6) = .pointer (some ⟨w.heap.size + 1 + 1, 0, none⟩) := q0; have hc := box4 (hg1.trans hg); exact ⟨rfl, by simp [go_sem, hr.const, hr.glob, q0e, hc]⟩) ?_
    refine tab_call (v := pt cx cy) (fun w1 hg => of_any cx cy w1) (fun r w1 hr hg hA => by obtain ⟨⟨_, q0⟩, -⟩ := hA; have q0e : r (.tmp 19) = pt cx cy := q0; exact ⟨rfl, by simp [go_sem, hr.const, hr.func, q0e]⟩) ?_
    refine tab_val (pt px py) (fun r w1 hr hg hA => by obtain ⟨q0, -⟩ := hA; have q0e : r (.tmp 7) = .pointer (some ⟨w.heap.size + 1 + 1 + 1, 0, none⟩) := q0; have hc := box4 (hg1.trans hg); exact ⟨rfl, by simp [go_sem, hr.const, hr.glob, q0e, hc]⟩) ?_
    refine tab_call (v := pt px py) (fun w1 hg => of_any px py w1) (fun r w1 hr hg hA => by obtain ⟨⟨_, q0⟩, -⟩ := hA; have q0e : r (.tmp 21) = pt px py := q0; exact ⟨rfl, by simp [go_sem, hr.const, hr.func, q0e]⟩) ?_
    refine tab_new (.cells #[.int .i64 0, .int .i64 0] 24 (0, 0)) (fun b => .pointer (some ⟨b, 0, none⟩)) (fun r w1 hr hg hA => by exact ⟨rfl, al_P r w1⟩) ?_
    refine tab_new (.cells #[.int .i64 0, .int .i64 0] 24 (0, 0)) (fun b => .pointer (some ⟨b, 0, none⟩)) (fun r w1 hr hg hA => by exact ⟨rfl, al_P r w1⟩) ?_
    refine tab_new (.cells #[.int .i64 0, .int .i64 0] 24 (0, 0)) (fun b => .pointer (some ⟨b, 0, none⟩)) (fun r w1 hr hg hA => by exact ⟨rfl, al_P r w1⟩) ?_
    refine tab_new (.cells #[.int .i64 0, .int .i64 0] 24 (0, 0)) (fun b => .pointer (some ⟨b, 0, none⟩)) (fun r w1 hr hg hA => by exact ⟨rfl, al_P r w1⟩) ?_
    refine tab_end ?_
    simp only [List.reverse_cons, List.reverse_nil, List.nil_append, List.cons_append, Out, forall_eq, forall_const, Act.put, List.setIfInBounds_toArray, List.set_cons_succ, List.set_cons_zero]
    rintro wA hgA b9 _ ⟨rfl, hb9⟩ hl9 hu9 hn9 b10 _ ⟨rfl, hb10⟩ hl10 hu10 hn10 b11 _ ⟨rfl, hb11⟩ hl11 hu11 hn11 b12 _ ⟨rfl, hb12⟩ hl12 hu12 hn12
    have g0 := hg1.trans hgA
    simp only [Apart, and_true] at hn10 hn11 hn12
    have n10_9 := hn10
    obtain ⟨n11_10, n11_9⟩ := hn11
    obtain ⟨n12_11, n12_10, n12_9⟩ := hn12
    have n9_10 := Ne.symm n10_9
    have n10_11 := Ne.symm n11_10
    have n9_11 := Ne.symm n11_9
    have n11_12 := Ne.symm n12_11
    have n10_12 := Ne.symm n12_10
    have n9_12 := Ne.symm n12_9
    have hl : w.heap.size + 1 + 1 + 1 + 1 ≤ w0.heap.size := by rw [hw0]; simp
    have s9 : ((((((((wA.setCell ⟨b9, 0, none⟩ (.int .i64 ax)).setCell ⟨b9, 1, none⟩ (.int .i64 ay)).setCell ⟨b10, 0, none⟩ (.int .i64 bx)).setCell ⟨b10, 1, none⟩ (.int .i64 b_y)).setCell ⟨b11, 0, none⟩ (.int .i64 cx)).setCell ⟨b11, 1, none⟩ (.int .i64 cy)).setCell ⟨b12, 0, none⟩ (.int .i64 px)).setCell ⟨b12, 1, none⟩ (.int .i64 py)).heap[b9]? = some (.cells #[.int .i64 ax, .int .i64 ay] 24 (0, 0)) := by
      rw [set2o n9_12, set2o n9_11, set2o n9_10, set2 (by exact hb9)]
    have s10 : ((((((((wA.setCell ⟨b9, 0, none⟩ (.int .i64 ax)).setCell ⟨b9, 1, none⟩ (.int .i64 ay)).setCell ⟨b10, 0, none⟩ (.int .i64 bx)).setCell ⟨b10, 1, none⟩ (.int .i64 b_y)).setCell ⟨b11, 0, none⟩ (.int .i64 cx)).setCell ⟨b11, 1, none⟩ (.int .i64 cy)).setCell ⟨b12, 0, none⟩ (.int .i64 px)).setCell ⟨b12, 1, none⟩ (.int .i64 py)).heap[b10]? = some (.cells #[.int .i64 bx, .int .i64 b_y] 24 (0, 0)) := by
      rw [set2o n10_12, set2o n10_11, set2 (by rw [set2o n10_9]; exact hb10)]
    have s11 : ((((((((wA.setCell ⟨b9, 0, none⟩ (.int .i64 ax)).setCell ⟨b9, 1, none⟩ (.int .i64 ay)).setCell ⟨b10, 0, none⟩ (.int .i64 bx)).setCell ⟨b10, 1, none⟩ (.int .i64 b_y)).setCell ⟨b11, 0, none⟩ (.int .i64 cx)).setCell ⟨b11, 1, none⟩ (.int .i64 cy)).setCell ⟨b12, 0, none⟩ (.int .i64 px)).setCell ⟨b12, 1, none⟩ (.int .i64 py)).heap[b11]? = some (.cells #[.int .i64 cx, .int .i64 cy] 24 (0, 0)) := by
      rw [set2o n11_12, set2 (by rw [set2o n11_10, set2o n11_9]; exact hb11)]
    have s12 : ((((((((wA.setCell ⟨b9, 0, none⟩ (.int .i64 ax)).setCell ⟨b9, 1, none⟩ (.int .i64 ay)).setCell ⟨b10, 0, none⟩ (.int .i64 bx)).setCell ⟨b10, 1, none⟩ (.int .i64 b_y)).setCell ⟨b11, 0, none⟩ (.int .i64 cx)).setCell ⟨b11, 1, none⟩ (.int .i64 cy)).setCell ⟨b12, 0, none⟩ (.int .i64 px)).setCell ⟨b12, 1, none⟩ (.int .i64 py)).heap[b12]? = some (.cells #[.int .i64 px, .int .i64 py] 24 (0, 0)) := by
      rw [set2 (by rw [set2o n12_11, set2o n12_10, set2o n12_9]; exact hb12)]
    have g1 := ((((((((g0.st (p := ⟨b9, 0, none⟩) (by simp only [World.size_alloc]; omega) (.int .i64 ax)).st (p := ⟨b9, 1, none⟩) (by simp only [World.size_alloc]; omega) (.int .i64 ay)).st (p := ⟨b10, 0, none⟩) (by simp only [World.size_alloc]; omega) (.int .i64 bx)).st (p := ⟨b10, 1, none⟩) (by simp only [World.size_alloc]; omega) (.int .i64 b_y)).st (p := ⟨b11, 0, none⟩) (by simp only [World.size_alloc]; omega) (.int .i64 cx)).st (p := ⟨b11, 1, none⟩) (by simp only [World.size_alloc]; omega) (.int .i64 cy)).st (p := ⟨b12, 0, none⟩) (by simp only [World.size_alloc]; omega) (.int .i64 px)).st (p := ⟨b12, 1, none⟩) (by simp only [World.size_alloc]; omega) (.int .i64 py))
    have S9 := Lib.hid s9
    have S10 := Lib.hid s10
    have S11 := Lib.hid s11
    have S12 := Lib.hid s12
    have G1 := Lib.hid g1
    obtain ⟨c71, c72, f71, f72⟩ := cells2 hb9
    obtain ⟨c81, c82, f81, f82⟩ := cells2 hb10
    obtain ⟨c91, c92, f91, f92⟩ := cells2 hb11
    obtain ⟨c01, c02, f01, f02⟩ := cells2 hb12
    clear hg1 hg1' hgA hw0 hb9 hb10 hb11 hb12 s9 s10 s11 s12 g0 g1 hn9 hn10
    go_upto_region 2 with (fail)
    generalize ((((((((wA.setCell ⟨b9, 0, none⟩ (.int .i64 ax)).setCell ⟨b9, 1, none⟩ (.int .i64 ay)).setCell ⟨b10, 0, none⟩ (.int .i64 bx)).setCell ⟨b10, 1, none⟩ (.int .i64 b_y)).setCell ⟨b11, 0, none⟩ (.int .i64 cx)).setCell ⟨b11, 1, none⟩ (.int .i64 cy)).setCell ⟨b12, 0, none⟩ (.int .i64 px)).setCell ⟨b12, 1, none⟩ (.int .i64 py)) = W1 at S9 S10 S11 S12 G1 ⊢
    clear c71 c72 f71 f72 c81 c82 f81 f82 c91 c92 f91 f92 c01 c02 f01 f02
    have A3' := A3.out
    have A4' := A4.out
    have HA3 := fun w hp => all_any (.slice (some ⟨W1.heap.size, 0, none⟩) 3 3) [(ax, ay), (bx, b_y), (px, py)] w hp
    rw [A3'] at HA3
    have K3 := Lib.hid HA3
    have HA4 := fun v w hp => all_any v [(ax, ay), (bx, b_y), (cx, cy), (px, py)] w hp
    rw [A4'] at HA4
    have K4 := Lib.hid HA4
    clear A3 A4 A3' A4' HA3 HA4
    go_cut [13] (fun v wx => v = .bool on ∧ Grows W1 wx)
    case first =>
      obtain ⟨c71, c72, f71, f72⟩ := cells2 S9.out
      obtain ⟨c81, c82, f81, f82⟩ := cells2 S10.out
      obtain ⟨c01, c02, f01, f02⟩ := cells2 S12.out
      go_wp2_with fail
      refine (K3.out _ (ptsAt3 (heap_new _ _ _ rfl))).mono ?_
      rintro e w1 ⟨rfl, hg⟩
      have hg := ((Grows.refl W1).al _).trans hg
      clear c71 c72 f71 f72 c81 c82 f81 f82 c01 c02 f01 f02
      obtain ⟨c71, c72, f71, f72⟩ := cells2 (Grows.block hg S9.out)
      obtain ⟨c81, c82, f81, f82⟩ := cells2 (Grows.block hg S10.out)
      obtain ⟨c01, c02, f01, f02⟩ := cells2 (Grows.block hg S12.out)
      have G2 := Lib.hid hg
      clear hg
      cases r3
      · obtain rfl : false = on := (h3.out rfl).symm
        go_wp2
        go_meet
        exact ⟨rfl, G2.out⟩
      · have R3' := Lib.hid (R3.out rfl)
        clear R3 h3
        go_wp2_with fail
        refine (R3'.out _).mono ?_
        rintro e w2 ⟨rfl, hg⟩
        have G3 := Lib.hid (G2.out.trans hg)
        clear hg
        go_wp2
        go_meet
        exact ⟨rfl, G3.out⟩
    case rest =>
      obtain ⟨rfl, hcg⟩ := hcut
      have K0 := Lib.hid hcg
      clear hcg K3 h3 R3
      go_upto_region 3 with (fail)
      go_cut [14] (fun v wx => v = .bool inn ∧ Grows W1 wx)
      case first =>
        obtain ⟨c71, c72, f71, f72⟩ := cells2 (Grows.block K0.out S9.out)
        obtain ⟨c81, c82, f81, f82⟩ := cells2 (Grows.block K0.out S10.out)
        obtain ⟨c91, c92, f91, f92⟩ := cells2 (Grows.block K0.out S11.out)
        obtain ⟨c01, c02, f01, f02⟩ := cells2 (Grows.block K0.out S12.out)
        go_wp2_with fail
        refine (K4.out _ _ (ptsAt4 (heap_new _ _ _ rfl))).mono ?_
        rintro e w1 ⟨rfl, hg⟩
        have hg := (K0.out.al _).trans hg
        clear c71 c72 f71 f72 c81 c82 f81 f82 c91 c92 f91 f92 c01 c02 f01 f02
        obtain ⟨c71, c72, f71, f72⟩ := cells2 (Grows.block hg S9.out)
        obtain ⟨c81, c82, f81, f82⟩ := cells2 (Grows.block hg S10.out)
        obtain ⟨c91, c92, f91, f92⟩ := cells2 (Grows.block hg S11.out)
        obtain ⟨c01, c02, f01, f02⟩ := cells2 (Grows.block hg S12.out)
        have G2 := Lib.hid hg
        clear hg
        cases r4
        · obtain rfl : false = inn := (h4.out rfl).symm
          go_wp2
          go_meet
          exact ⟨rfl, G2.out⟩
        · have R4' := Lib.hid (R4.out rfl)
          clear R4 h4
          go_wp2_with fail
          refine (R4'.out _).mono ?_
          rintro e w2 ⟨rfl, hg⟩
          have G3 := Lib.hid (G2.out.trans hg)
          clear hg
          go_wp2
          go_meet
          exact ⟨rfl, G3.out⟩
      case rest =>
        obtain ⟨rfl, hcg⟩ := hcut
        have G2 := Lib.hid (G1.out.trans hcg)
        clear hcg K0 K4 h4 R4 S9 S10 S11 S12 G1
        go_wp2_with fail
        refine (kn_any _).mono ?_
        rintro e w1 ⟨rfl, hg⟩
        have hg := G2.out.trans hg
        obtain ⟨c1, c2, c3, c4, c5, c6, c7, c8⟩ := box4 hg
        have G3 := Lib.hid hg
        clear hg G2
        go_wp2_with fail
        refine (H3.out _).mono ?_
        rintro e w2 ⟨rfl, hg⟩
        clear c1 c2 c3 c4 c5 c6 c7 c8
        have hg := G3.out.trans hg
        obtain ⟨c1, c2, c3, c4, c5, c6, c7, c8⟩ := box4 hg
        have G4 := Lib.hid hg
        clear hg G3
        go_wp2_with fail
        refine (H4.out _).mono ?_
        rintro e w3 ⟨rfl, hg⟩
        clear c1 c2 c3 c4 c5 c6 c7 c8
        have G5 := Lib.hid (G4.out.trans hg)
        clear hg G4
        go_wp2
        go_ret
        exact ⟨rfl, (((((Grows.refl w).al _).al _).al _).al _).trans G5.out⟩

theorem law_lies (ax ay bx b_y cx cy px py : Int) (w : World) : Calls Try.prog 4 #[pt ax ay, pt bx b_y, pt cx cy, pt px py] w (Ret (.bool true) w) := by
  refine law_lies_core ax ay bx b_y cx cy px py _ _ (onP ax ay bx b_y px py) (inP ax ay bx b_y cx cy px py) w (Lib.hid fun h => ?_) (Lib.hid fun h => ?_) (Lib.hid (right3 ..)) (Lib.hid (right4 ..)) (Lib.hid fun h w => ?_) (Lib.hid fun h w => ?_) (Lib.hid (on_any _ _ _ _ _ _)) (Lib.hid (tri_any _ _ _ _ _ _ _ _))
  · unfold onP; rw [h]; rfl
  · unfold inP; rw [h]; rfl
  · have e : onP ax ay bx b_y px py = ronB ax ay bx b_y px py := by unfold onP; rw [h, on_eq]; rfl
    simp only [Bool.and_eq_true] at h
    rw [e]; exact ron_any _ _ _ _ _ _ w h.1.1 h.1.2 h.2
  · have e : inP ax ay bx b_y cx cy px py = rinB ax ay bx b_y cx cy px py := by unfold inP; rw [h, in_eq]; rfl
    simp only [Bool.and_eq_true] at h
    rw [e]; exact rin_any _ _ _ _ _ _ _ _ w h.1.1.1 h.1.1.2 h.1.2 h.2
end Go.Proofs.Ytkedcaplbdhmeaa
