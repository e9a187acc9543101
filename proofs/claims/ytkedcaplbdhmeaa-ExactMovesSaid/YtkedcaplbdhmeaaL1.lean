/-
  The law on areas.
-/
import Derived.Test.YtkedcaplbdhmeaaE7
import Derived.Test.YtkedcaplbdhmeaaL4
import Derived.Deep.DeepCutAuto
namespace Go.Proofs.Ytkedcaplbdhmeaa
open Go.RowKit Go.Tab

theorem al_P {d : Option Tmp} {T : TypeId} {p : String} (r : Operand → Value) (w : World) : (execOp r { dst := d, op := Op.alloc 24, type := T, pos := p, after := #[], guard := none }).run Try.prog w = .ok (.value (.pointer (some ⟨w.heap.size, 0, none⟩))) (w.alloc (.cells #[.int .i64 0, .int .i64 0] 24 (0, 0))) := by simp [go_sem]

theorem right_nil (w : World) : Calls Try.prog 13 #[.slice none 0 0] w (Ret (.bool true) w) := right_any _ [] w ⟨by simp, .inl ⟨rfl, rfl⟩⟩

set_option maxHeartbeats 1600000 in
set_option maxRecDepth 100000 in
theorem law_areas_core (ax ay bx b_y cx cy n : Int) (m1 m2 m3 : Bool) (w : World) (hn : Hid ((m1 && m2 && m3) = false → n = 0))
    (M1 : Hid (∀ w, Calls Try.prog 10 #[pt ax ay] w (Ret (.bool m1) w)))
    (M2 : Hid (∀ w, Calls Try.prog 10 #[pt bx b_y] w (Ret (.bool m2) w)))
    (M3 : Hid (∀ w, Calls Try.prog 10 #[pt cx cy] w (Ret (.bool m3) w)))
    (Mc : Hid ((m1 && m2 && m3) = true → ∀ w, Calls Try.prog 11 #[pt ax ay, pt bx b_y, pt cx cy] w (Ret (.int .i64 n) w)))
    (Hc : Hid (∀ w, Calls Try.prog 17 #[pt ax ay, pt bx b_y, pt cx cy] w (Ret (.int .i64 n) w)))
    (Ht : Hid (∀ w, Calls Try.prog 18 #[pt ax ay, pt bx b_y, pt cx cy] w (Ret (.int .i64 (signI n)) w))) :
    Calls Try.prog 3 #[pt ax ay, pt bx b_y, pt cx cy] w (Ret (.bool true) w) := by
  go_enter Try.func3, Try.ntmps3
  go_wp2
  refine wp_region_tab 9 (by kernel_rfl) (by kernel_rfl) ?_
  intro w0 hw0 hg1 hg1'
  simp only [List.take_succ_cons, List.take_zero, List.drop_succ_cons, List.drop_zero]
  · 
    refine tab_val (pt ax ay) (fun r w1 hr hg hA => by obtain ⟨q0, -⟩ := hA; have q0e : r (.tmp 3) = .pointer (some ⟨w.heap.size, 0, none⟩) := q0; have hc := box3 (hg1.trans hg); exact ⟨rfl, by simp [go_sem, hr.const, hr.glob, q0e, hc]⟩) ?_
    refine tab_call (v := pt ax ay) (fun w1 hg => of_any ax ay w1) (fun r w1 hr hg hA => by obtain ⟨⟨_, q0⟩, -⟩ := hA; have q0e : r (.tmp 11) = pt ax ay := q0; exact ⟨rfl, by simp [go_sem, hr.const, hr.func, q0e]⟩) ?_
    refine tab_val (pt bx b_y) (fun r w1 hr hg hA => by obtain ⟨q0, -⟩ := hA; have q0e : r (.tmp 4) = .pointer (some ⟨w.heap.size + 1, 0, none⟩) := q0; have hc := box3 (hg1.trans hg); exact ⟨rfl, by simp [go_sem, hr.const, hr.glob, q0e, hc]⟩) ?_
    refine tab_call (v := pt bx b_y) (fun w1 hg => of_any bx b_y w1) (fun r w1 hr hg hA => by obtain ⟨⟨_, q0⟩, -⟩ := hA; have q0e : r (.tmp 13) = pt bx b_y := q0; exact ⟨rfl, by simp [go_sem, hr.const, hr.func, q0e]⟩) ?_
    refine tab_val (pt cx cy) (fun r w1 hr hg hA => by obtain ⟨q0, -⟩ := hA; have q0e : r (.tmp 5) = .pointer (some ⟨w.heap.size + 1 + 1, 0, none⟩) := q0; have hc := box3 (hg1.trans hg); exact ⟨rfl, by simp [go_sem, hr.const, hr.glob, q0e, hc]⟩) ?_
    refine tab_call (v := pt cx cy) (fun w1 hg => of_any cx cy w1) (fun r w1 hr hg hA => by obtain ⟨⟨_, q0⟩, -⟩ := hA; have q0e : r (.tmp 15) = pt cx cy := q0; exact ⟨rfl, by simp [go_sem, hr.const, hr.func, q0e]⟩) ?_
    refine tab_new (.cells #[.int .i64 0, .int .i64 0] 24 (0, 0)) (fun b => .pointer (some ⟨b, 0, none⟩)) (fun r w1 hr hg hA => by exact ⟨rfl, al_P r w1⟩) ?_
    refine tab_new (.cells #[.int .i64 0, .int .i64 0] 24 (0, 0)) (fun b => .pointer (some ⟨b, 0, none⟩)) (fun r w1 hr hg hA => by exact ⟨rfl, al_P r w1⟩) ?_
    refine tab_new (.cells #[.int .i64 0, .int .i64 0] 24 (0, 0)) (fun b => .pointer (some ⟨b, 0, none⟩)) (fun r w1 hr hg hA => by exact ⟨rfl, al_P r w1⟩) ?_
    refine tab_end ?_
    simp only [List.reverse_cons, List.reverse_nil, List.nil_append, List.cons_append, Out, forall_eq, forall_const, Act.put, List.setIfInBounds_toArray, List.set_cons_succ, List.set_cons_zero]
    rintro wA hgA b7 _ ⟨rfl, hb7⟩ hl7 hu7 hn7 b8 _ ⟨rfl, hb8⟩ hl8 hu8 hn8 b9 _ ⟨rfl, hb9⟩ hl9 hu9 hn9
    have g0 := hg1.trans hgA
    simp only [Apart, and_true] at hn8 hn9
    obtain ⟨hn98, hn97⟩ := hn9
    have hl : w.heap.size + 1 + 1 + 1 ≤ w0.heap.size := by rw [hw0]; simp
    have s7 : ((((wA.setCell ⟨b7, 0, none⟩ (.int .i64 ax)).setCell ⟨b7, 1, none⟩ (.int .i64 ay)).setCell ⟨b8, 0, none⟩ (.int .i64 bx)).setCell ⟨b8, 1, none⟩ (.int .i64 b_y) |>.setCell ⟨b9, 0, none⟩ (.int .i64 cx) |>.setCell ⟨b9, 1, none⟩ (.int .i64 cy)).heap[b7]? = some (.cells #[.int .i64 ax, .int .i64 ay] 24 (0, 0)) := by
      rw [set2o (Ne.symm hn97), set2o (Ne.symm hn8), set2 hb7]
    have s8 : ((((wA.setCell ⟨b7, 0, none⟩ (.int .i64 ax)).setCell ⟨b7, 1, none⟩ (.int .i64 ay)).setCell ⟨b8, 0, none⟩ (.int .i64 bx)).setCell ⟨b8, 1, none⟩ (.int .i64 b_y) |>.setCell ⟨b9, 0, none⟩ (.int .i64 cx) |>.setCell ⟨b9, 1, none⟩ (.int .i64 cy)).heap[b8]? = some (.cells #[.int .i64 bx, .int .i64 b_y] 24 (0, 0)) := by
      rw [set2o (Ne.symm hn98), set2 (by rw [set2o hn8]; exact hb8)]
    have s9 : ((((wA.setCell ⟨b7, 0, none⟩ (.int .i64 ax)).setCell ⟨b7, 1, none⟩ (.int .i64 ay)).setCell ⟨b8, 0, none⟩ (.int .i64 bx)).setCell ⟨b8, 1, none⟩ (.int .i64 b_y) |>.setCell ⟨b9, 0, none⟩ (.int .i64 cx) |>.setCell ⟨b9, 1, none⟩ (.int .i64 cy)).heap[b9]? = some (.cells #[.int .i64 cx, .int .i64 cy] 24 (0, 0)) := by
      rw [set2 (by rw [set2o hn98, set2o hn97]; exact hb9)]
    have g1 := (((((g0.st (p := ⟨b7, 0, none⟩) (by simp only [World.size_alloc]; omega) (.int .i64 ax)).st (p := ⟨b7, 1, none⟩) (by simp only [World.size_alloc]; omega) (.int .i64 ay)).st (p := ⟨b8, 0, none⟩) (by simp only [World.size_alloc]; omega) (.int .i64 bx)).st (p := ⟨b8, 1, none⟩) (by simp only [World.size_alloc]; omega) (.int .i64 b_y)).st (p := ⟨b9, 0, none⟩) (by simp only [World.size_alloc]; omega) (.int .i64 cx)).st (p := ⟨b9, 1, none⟩) (by simp only [World.size_alloc]; omega) (.int .i64 cy)
    have S7 := Lib.hid s7
    have S8 := Lib.hid s8
    have S9 := Lib.hid s9
    have G1 := Lib.hid g1
    obtain ⟨c71, c72, f71, f72⟩ := cells2 hb7
    obtain ⟨c81, c82, f81, f82⟩ := cells2 hb8
    obtain ⟨c91, c92, f91, f92⟩ := cells2 hb9
    clear hg1 hg1' hgA hw0 hb7 hb8 hb9 s7 s8 s9 g0 g1 hn7
    go_upto_region 3 with (fail)
    generalize ((((wA.setCell ⟨b7, 0, none⟩ (.int .i64 ax)).setCell ⟨b7, 1, none⟩ (.int .i64 ay)).setCell ⟨b8, 0, none⟩ (.int .i64 bx)).setCell ⟨b8, 1, none⟩ (.int .i64 b_y) |>.setCell ⟨b9, 0, none⟩ (.int .i64 cx) |>.setCell ⟨b9, 1, none⟩ (.int .i64 cy)) = W1 at S7 S8 S9 G1 ⊢
    clear c71 c72 f71 f72 c81 c82 f81 f82 c91 c92 f91 f92
    go_cut [26] (fun v wx => v = .bool (m1 && m2 && m3) ∧ Grows W1 wx)
    case first =>
      obtain ⟨c71, c72, f71, f72⟩ := cells2 S7.out
      go_wp2_with fail
      refine (M1.out _).mono ?_
      rintro e w1 ⟨rfl, hg⟩
      clear c71 c72 f71 f72
      obtain ⟨c81, c82, f81, f82⟩ := cells2 (Grows.block hg S8.out)
      have K1 := Lib.hid hg
      clear hg
      cases m1
      · go_wp2
        go_meet
        exact ⟨rfl, K1.out⟩
      · go_wp2_with fail
        refine (M2.out _).mono ?_
        rintro e w2 ⟨rfl, hg⟩
        clear c81 c82 f81 f82
        have hg := K1.out.trans hg
        obtain ⟨c91, c92, f91, f92⟩ := cells2 (Grows.block hg S9.out)
        have K2 := Lib.hid hg
        clear hg
        cases m2
        · go_wp2
          go_meet
          exact ⟨rfl, K2.out⟩
        · go_wp2_with fail
          refine (M3.out _).mono ?_
          rintro e w3 ⟨rfl, hg⟩
          have K3 := Lib.hid (K2.out.trans hg)
          clear hg
          go_wp2
          go_meet
          exact ⟨rfl, K3.out⟩
    case rest =>
      obtain ⟨rfl, hcg⟩ := hcut
      have K0 := Lib.hid hcg
      clear hcg
      generalize hmm : (m1 && m2 && m3) = mm at *
      have Hmm := Lib.hid hmm
      clear hmm
      go_upto_if 26 with (fail)
      go_cut [10] (fun v wx => v = .int .i64 n ∧ Grows W1 wx)
      case first =>
        obtain ⟨c71, c72, f71, f72⟩ := cells2 (Grows.block K0.out S7.out)
        obtain ⟨c81, c82, f81, f82⟩ := cells2 (Grows.block K0.out S8.out)
        obtain ⟨c91, c92, f91, f92⟩ := cells2 (Grows.block K0.out S9.out)
        cases mm
        · obtain rfl : 0 = n := (hn.out rfl).symm
          go_wp2
          go_meet
          exact ⟨rfl, K0.out⟩
        · have Mc' := Lib.hid (Mc.out rfl)
          clear Mc
          go_wp2_with fail
          refine (Mc'.out _).mono ?_
          rintro e w3 ⟨rfl, hg⟩
          have K3 := Lib.hid (K0.out.trans hg)
          clear hg
          go_wp2
          go_meet
          exact ⟨rfl, K3.out⟩
      case rest =>
        obtain ⟨rfl, hcg⟩ := hcut
        have K1 := Lib.hid hcg
        clear hcg hn Mc Hmm K0
        go_wp2
        refine wp_region_tab 44 (by kernel_rfl) (by kernel_rfl) ?_
        intro w0 hw0 hg1 hg1'
        simp only [List.take_succ_cons, List.take_zero, List.drop_succ_cons, List.drop_zero]
        have facts5 := fun (w1 : World) (hg : Grows w0 w1) => And.intro (box3 (G1.out.trans (K1.out.trans (hg1.trans hg))))
          (And.intro (cells2 (Grows.block (K1.out.trans (hg1.trans hg)) S7.out)) (And.intro (cells2 (Grows.block (K1.out.trans (hg1.trans hg)) S8.out)) (cells2 (Grows.block (K1.out.trans (hg1.trans hg)) S9.out))))
        · 
          refine tab_call (v := .bool true) (fun w1 hg => kn_any w1) (fun r w1 hr hg hA => by exact ⟨rfl, by simp [go_sem, hr.const, hr.func]⟩) ?_
          refine tab_val (.bool true) (fun r w1 hr hg hA => by obtain ⟨⟨_, q0⟩, -⟩ := hA; have q0e : r (.tmp 31) = .bool true := q0; exact ⟨rfl, by simp [go_sem, hr.const, hr.glob, q0e]⟩) ?_
          refine tab_val (pt ax ay) (fun r w1 hr hg hA => by obtain ⟨q0, ⟨_, q1⟩, -⟩ := hA; have q0e : r (.tmp 3) = .pointer (some ⟨w.heap.size, 0, none⟩) := q0; have q1e : r (.tmp 32) = .bool true := q1; have hc := facts5 w1 hg; exact ⟨⟨_, q1e, rfl⟩, by simp [go_sem, hr.const, hr.glob, q0e, hc]⟩) ?_
          refine tab_val (pt bx b_y) (fun r w1 hr hg hA => by obtain ⟨q0, ⟨_, q1⟩, -⟩ := hA; have q0e : r (.tmp 4) = .pointer (some ⟨w.heap.size + 1, 0, none⟩) := q0; have q1e : r (.tmp 32) = .bool true := q1; have hc := facts5 w1 hg; exact ⟨⟨_, q1e, rfl⟩, by simp [go_sem, hr.const, hr.glob, q0e, hc]⟩) ?_
          refine tab_val (pt cx cy) (fun r w1 hr hg hA => by obtain ⟨q0, ⟨_, q1⟩, -⟩ := hA; have q0e : r (.tmp 5) = .pointer (some ⟨w.heap.size + 1 + 1, 0, none⟩) := q0; have q1e : r (.tmp 32) = .bool true := q1; have hc := facts5 w1 hg; exact ⟨⟨_, q1e, rfl⟩, by simp [go_sem, hr.const, hr.glob, q0e, hc]⟩) ?_
          refine tab_new (.cells #[.int .i64 ax, .int .i64 ay, .int .i64 bx, .int .i64 b_y, .int .i64 cx, .int .i64 cy] 23 (0, 0)) (fun b => .slice (some ⟨b, 0, none⟩) 3 3) (fun r w1 hr hg hA => by obtain ⟨⟨_, q0⟩, ⟨_, q1⟩, ⟨_, q2⟩, ⟨_, q3⟩, -⟩ := hA; have q0e : r (.tmp 33) = pt ax ay := q0; have q1e : r (.tmp 34) = pt bx b_y := q1; have q2e : r (.tmp 35) = pt cx cy := q2; have q3e : r (.tmp 32) = .bool true := q3; exact ⟨⟨_, q3e, rfl⟩, by simp [go_sem, q0e, q1e, q2e]⟩) ?_
          refine tab_callP (v := .bool (rightB [(ax, ay), (bx, b_y), (cx, cy)])) (fun r w1 hr hg hA => by obtain ⟨⟨b0, q0, k0⟩, ⟨_, q1⟩, -⟩ := hA; have q0e : r (.tmp 36) = .slice (some ⟨b0, 0, none⟩) 3 3 := q0; have k0e : w1.heap[b0]? = some (.cells #[.int .i64 ax, .int .i64 ay, .int .i64 bx, .int .i64 b_y, .int .i64 cx, .int .i64 cy] 23 (0, 0)) := k0; have q1e : r (.tmp 32) = .bool true := q1; exact ⟨⟨_, q1e, rfl⟩, #[.slice (some ⟨b0, 0, none⟩) 3 3], by simp [go_sem, hr.const, hr.func, q0e], right_any _ [(ax, ay), (bx, b_y), (cx, cy)] _ (ptsAt3 k0e)⟩) ?_
          refine tab_val (pt ax ay) (fun r w1 hr hg hA => by obtain ⟨q0, ⟨_, q1⟩, -⟩ := hA; have q0e : r (.tmp 7) = .pointer (some ⟨b7, 0, none⟩) := q0; have q1e : r (.tmp 32) = .bool true := q1; have hc := facts5 w1 hg; exact ⟨⟨_, q1e, rfl⟩, by simp [go_sem, hr.const, hr.glob, q0e, hc]⟩) ?_
          refine tab_val (pt bx b_y) (fun r w1 hr hg hA => by obtain ⟨q0, ⟨_, q1⟩, -⟩ := hA; have q0e : r (.tmp 8) = .pointer (some ⟨b8, 0, none⟩) := q0; have q1e : r (.tmp 32) = .bool true := q1; have hc := facts5 w1 hg; exact ⟨⟨_, q1e, rfl⟩, by simp [go_sem, hr.const, hr.glob, q0e, hc]⟩) ?_
          refine tab_val (pt cx cy) (fun r w1 hr hg hA => by obtain ⟨q0, ⟨_, q1⟩, -⟩ := hA; have q0e : r (.tmp 9) = .pointer (some ⟨b9, 0, none⟩) := q0; have q1e : r (.tmp 32) = .bool true := q1; have hc := facts5 w1 hg; exact ⟨⟨_, q1e, rfl⟩, by simp [go_sem, hr.const, hr.glob, q0e, hc]⟩) ?_
          refine tab_new (.cells #[.int .i64 ax, .int .i64 ay, .int .i64 bx, .int .i64 b_y, .int .i64 cx, .int .i64 cy] 24 (0, 0)) (fun b => .slice (some ⟨b, 0, none⟩) 3 3) (fun r w1 hr hg hA => by obtain ⟨⟨_, q0⟩, ⟨_, q1⟩, ⟨_, q2⟩, ⟨_, q3⟩, -⟩ := hA; have q0e : r (.tmp 38) = pt ax ay := q0; have q1e : r (.tmp 39) = pt bx b_y := q1; have q2e : r (.tmp 40) = pt cx cy := q2; have q3e : r (.tmp 32) = .bool true := q3; exact ⟨⟨_, q3e, rfl⟩, by simp [go_sem, q0e, q1e, q2e]⟩) ?_
          refine tab_callP (v := .bool (rightB [(ax, ay), (bx, b_y), (cx, cy)])) (fun r w1 hr hg hA => by obtain ⟨⟨b0, q0, k0⟩, ⟨_, q1⟩, -⟩ := hA; have q0e : r (.tmp 41) = .slice (some ⟨b0, 0, none⟩) 3 3 := q0; have k0e : w1.heap[b0]? = some (.cells #[.int .i64 ax, .int .i64 ay, .int .i64 bx, .int .i64 b_y, .int .i64 cx, .int .i64 cy] 24 (0, 0)) := k0; have q1e : r (.tmp 32) = .bool true := q1; exact ⟨⟨_, q1e, rfl⟩, #[.slice (some ⟨b0, 0, none⟩) 3 3], by simp [go_sem, hr.const, hr.func, q0e], all_any _ [(ax, ay), (bx, b_y), (cx, cy)] _ (ptsAt3 k0e)⟩) ?_
          refine tab_val (.bool true) (fun r w1 hr hg hA => by obtain ⟨⟨_, q0⟩, ⟨_, q1⟩, ⟨_, q2⟩, -⟩ := hA; have q0e : r (.tmp 37) = .bool (rightB [(ax, ay), (bx, b_y), (cx, cy)]) := q0; have q1e : r (.tmp 42) = .bool (rightB [(ax, ay), (bx, b_y), (cx, cy)]) := q1; have q2e : r (.tmp 32) = .bool true := q2; exact ⟨⟨_, q2e, rfl⟩, by simp [go_sem, hr.const, hr.glob, q0e, q1e]⟩) ?_
          refine tab_val (.bool true) (fun r w1 hr hg hA => by obtain ⟨⟨_, q0⟩, ⟨_, q1⟩, -⟩ := hA; have q0e : r (.tmp 32) = .bool true := q0; have q1e : r (.tmp 43) = .bool true := q1; exact ⟨rfl, by simp [go_sem, hr.const, hr.glob, q0e, q1e]⟩) ?_
          refine tab_val (.bool true) (fun r w1 hr hg hA => by obtain ⟨⟨_, q0⟩, -⟩ := hA; have q0e : r (.tmp 44) = .bool true := q0; exact ⟨rfl, by simp [go_sem, hr.const, hr.glob, q0e]⟩) ?_
          refine tab_call (v := .bool true) (fun w1 hg => right_nil w1) (fun r w1 hr hg hA => by obtain ⟨⟨_, q0⟩, -⟩ := hA; have q0e : r (.tmp 45) = .bool true := q0; exact ⟨⟨_, q0e, rfl⟩, by simp [go_sem, hr.const, hr.func]⟩) ?_
          refine tab_val (.bool true) (fun r w1 hr hg hA => by obtain ⟨⟨_, q0⟩, ⟨_, q1⟩, -⟩ := hA; have q0e : r (.tmp 45) = .bool true := q0; have q1e : r (.tmp 46) = .bool true := q1; exact ⟨rfl, by simp [go_sem, hr.const, hr.glob, q0e, q1e]⟩) ?_
          refine tab_val (.bool true) (fun r w1 hr hg hA => by obtain ⟨⟨_, q0⟩, -⟩ := hA; have q0e : r (.tmp 47) = .bool true := q0; exact ⟨rfl, by simp [go_sem, hr.const, hr.glob, q0e]⟩) ?_
          refine tab_val (pt ax ay) (fun r w1 hr hg hA => by obtain ⟨q0, ⟨_, q1⟩, -⟩ := hA; have q0e : r (.tmp 3) = .pointer (some ⟨w.heap.size, 0, none⟩) := q0; have q1e : r (.tmp 48) = .bool true := q1; have hc := facts5 w1 hg; exact ⟨⟨_, q1e, rfl⟩, by simp [go_sem, hr.const, hr.glob, q0e, hc]⟩) ?_
          refine tab_val (pt bx b_y) (fun r w1 hr hg hA => by obtain ⟨q0, ⟨_, q1⟩, -⟩ := hA; have q0e : r (.tmp 4) = .pointer (some ⟨w.heap.size + 1, 0, none⟩) := q0; have q1e : r (.tmp 48) = .bool true := q1; have hc := facts5 w1 hg; exact ⟨⟨_, q1e, rfl⟩, by simp [go_sem, hr.const, hr.glob, q0e, hc]⟩) ?_
          refine tab_call (v := .bool (lessB ax ay bx b_y)) (fun w1 hg => less_any ax ay bx b_y w1) (fun r w1 hr hg hA => by obtain ⟨⟨_, q0⟩, ⟨_, q1⟩, ⟨_, q2⟩, -⟩ := hA; have q0e : r (.tmp 49) = pt ax ay := q0; have q1e : r (.tmp 50) = pt bx b_y := q1; have q2e : r (.tmp 48) = .bool true := q2; exact ⟨⟨_, q2e, rfl⟩, by simp [go_sem, hr.const, hr.func, q0e, q1e]⟩) ?_
          refine tab_val (pt ax ay) (fun r w1 hr hg hA => by obtain ⟨q0, ⟨_, q1⟩, -⟩ := hA; have q0e : r (.tmp 7) = .pointer (some ⟨b7, 0, none⟩) := q0; have q1e : r (.tmp 48) = .bool true := q1; have hc := facts5 w1 hg; exact ⟨⟨_, q1e, rfl⟩, by simp [go_sem, hr.const, hr.glob, q0e, hc]⟩) ?_
          refine tab_val (pt bx b_y) (fun r w1 hr hg hA => by obtain ⟨q0, ⟨_, q1⟩, -⟩ := hA; have q0e : r (.tmp 8) = .pointer (some ⟨b8, 0, none⟩) := q0; have q1e : r (.tmp 48) = .bool true := q1; have hc := facts5 w1 hg; exact ⟨⟨_, q1e, rfl⟩, by simp [go_sem, hr.const, hr.glob, q0e, hc]⟩) ?_
          refine tab_call (v := .bool (lessB ax ay bx b_y)) (fun w1 hg => rless_any ax ay bx b_y w1) (fun r w1 hr hg hA => by obtain ⟨⟨_, q0⟩, ⟨_, q1⟩, ⟨_, q2⟩, -⟩ := hA; have q0e : r (.tmp 52) = pt ax ay := q0; have q1e : r (.tmp 53) = pt bx b_y := q1; have q2e : r (.tmp 48) = .bool true := q2; exact ⟨⟨_, q2e, rfl⟩, by simp [go_sem, hr.const, hr.func, q0e, q1e]⟩) ?_
          refine tab_val (.bool true) (fun r w1 hr hg hA => by obtain ⟨⟨_, q0⟩, ⟨_, q1⟩, ⟨_, q2⟩, -⟩ := hA; have q0e : r (.tmp 51) = .bool (lessB ax ay bx b_y) := q0; have q1e : r (.tmp 54) = .bool (lessB ax ay bx b_y) := q1; have q2e : r (.tmp 48) = .bool true := q2; exact ⟨⟨_, q2e, rfl⟩, by simp [go_sem, hr.const, hr.glob, q0e, q1e]⟩) ?_
          refine tab_val (.bool true) (fun r w1 hr hg hA => by obtain ⟨⟨_, q0⟩, ⟨_, q1⟩, -⟩ := hA; have q0e : r (.tmp 48) = .bool true := q0; have q1e : r (.tmp 55) = .bool true := q1; exact ⟨rfl, by simp [go_sem, hr.const, hr.glob, q0e, q1e]⟩) ?_
          refine tab_val (.bool true) (fun r w1 hr hg hA => by obtain ⟨⟨_, q0⟩, -⟩ := hA; have q0e : r (.tmp 56) = .bool true := q0; exact ⟨rfl, by simp [go_sem, hr.const, hr.glob, q0e]⟩) ?_
          refine tab_val (pt ax ay) (fun r w1 hr hg hA => by obtain ⟨q0, ⟨_, q1⟩, -⟩ := hA; have q0e : r (.tmp 3) = .pointer (some ⟨w.heap.size, 0, none⟩) := q0; have q1e : r (.tmp 57) = .bool true := q1; have hc := facts5 w1 hg; exact ⟨⟨_, q1e, rfl⟩, by simp [go_sem, hr.const, hr.glob, q0e, hc]⟩) ?_
          refine tab_val (pt bx b_y) (fun r w1 hr hg hA => by obtain ⟨q0, ⟨_, q1⟩, -⟩ := hA; have q0e : r (.tmp 4) = .pointer (some ⟨w.heap.size + 1, 0, none⟩) := q0; have q1e : r (.tmp 57) = .bool true := q1; have hc := facts5 w1 hg; exact ⟨⟨_, q1e, rfl⟩, by simp [go_sem, hr.const, hr.glob, q0e, hc]⟩) ?_
          refine tab_val (pt cx cy) (fun r w1 hr hg hA => by obtain ⟨q0, ⟨_, q1⟩, -⟩ := hA; have q0e : r (.tmp 5) = .pointer (some ⟨w.heap.size + 1 + 1, 0, none⟩) := q0; have q1e : r (.tmp 57) = .bool true := q1; have hc := facts5 w1 hg; exact ⟨⟨_, q1e, rfl⟩, by simp [go_sem, hr.const, hr.glob, q0e, hc]⟩) ?_
          refine tab_call (v := .int .i64 n) (fun w1 hg => Hc.out w1) (fun r w1 hr hg hA => by obtain ⟨⟨_, q0⟩, ⟨_, q1⟩, ⟨_, q2⟩, ⟨_, q3⟩, -⟩ := hA; have q0e : r (.tmp 58) = pt ax ay := q0; have q1e : r (.tmp 59) = pt bx b_y := q1; have q2e : r (.tmp 60) = pt cx cy := q2; have q3e : r (.tmp 57) = .bool true := q3; exact ⟨⟨_, q3e, rfl⟩, by simp [go_sem, hr.const, hr.func, q0e, q1e, q2e]⟩) ?_
          refine tab_val (.int .i64 n) (fun r w1 hr hg hA => by obtain ⟨q0, ⟨_, q1⟩, -⟩ := hA; have q0e : r (.tmp 10) = .int .i64 n := q0; have q1e : r (.tmp 57) = .bool true := q1; exact ⟨⟨_, q1e, rfl⟩, by simp [go_sem, hr.const, hr.glob, q0e]⟩) ?_
          refine tab_val (.bool true) (fun r w1 hr hg hA => by obtain ⟨⟨_, q0⟩, ⟨_, q1⟩, ⟨_, q2⟩, -⟩ := hA; have q0e : r (.tmp 61) = .int .i64 n := q0; have q1e : r (.tmp 62) = .int .i64 n := q1; have q2e : r (.tmp 57) = .bool true := q2; exact ⟨⟨_, q2e, rfl⟩, by simp [go_sem, hr.const, hr.glob, q0e, q1e]⟩) ?_
          refine tab_val (.bool true) (fun r w1 hr hg hA => by obtain ⟨⟨_, q0⟩, ⟨_, q1⟩, -⟩ := hA; have q0e : r (.tmp 57) = .bool true := q0; have q1e : r (.tmp 63) = .bool true := q1; exact ⟨rfl, by simp [go_sem, hr.const, hr.glob, q0e, q1e]⟩) ?_
          refine tab_val (.bool true) (fun r w1 hr hg hA => by obtain ⟨⟨_, q0⟩, -⟩ := hA; have q0e : r (.tmp 64) = .bool true := q0; exact ⟨rfl, by simp [go_sem, hr.const, hr.glob, q0e]⟩) ?_
          refine tab_val (pt ax ay) (fun r w1 hr hg hA => by obtain ⟨q0, ⟨_, q1⟩, -⟩ := hA; have q0e : r (.tmp 3) = .pointer (some ⟨w.heap.size, 0, none⟩) := q0; have q1e : r (.tmp 65) = .bool true := q1; have hc := facts5 w1 hg; exact ⟨⟨_, q1e, rfl⟩, by simp [go_sem, hr.const, hr.glob, q0e, hc]⟩) ?_
          refine tab_val (pt bx b_y) (fun r w1 hr hg hA => by obtain ⟨q0, ⟨_, q1⟩, -⟩ := hA; have q0e : r (.tmp 4) = .pointer (some ⟨w.heap.size + 1, 0, none⟩) := q0; have q1e : r (.tmp 65) = .bool true := q1; have hc := facts5 w1 hg; exact ⟨⟨_, q1e, rfl⟩, by simp [go_sem, hr.const, hr.glob, q0e, hc]⟩) ?_
          refine tab_val (pt cx cy) (fun r w1 hr hg hA => by obtain ⟨q0, ⟨_, q1⟩, -⟩ := hA; have q0e : r (.tmp 5) = .pointer (some ⟨w.heap.size + 1 + 1, 0, none⟩) := q0; have q1e : r (.tmp 65) = .bool true := q1; have hc := facts5 w1 hg; exact ⟨⟨_, q1e, rfl⟩, by simp [go_sem, hr.const, hr.glob, q0e, hc]⟩) ?_
          refine tab_call (v := .int .i64 (signI n)) (fun w1 hg => Ht.out w1) (fun r w1 hr hg hA => by obtain ⟨⟨_, q0⟩, ⟨_, q1⟩, ⟨_, q2⟩, ⟨_, q3⟩, -⟩ := hA; have q0e : r (.tmp 66) = pt ax ay := q0; have q1e : r (.tmp 67) = pt bx b_y := q1; have q2e : r (.tmp 68) = pt cx cy := q2; have q3e : r (.tmp 65) = .bool true := q3; exact ⟨⟨_, q3e, rfl⟩, by simp [go_sem, hr.const, hr.func, q0e, q1e, q2e]⟩) ?_
          refine tab_val (.int .i64 n) (fun r w1 hr hg hA => by obtain ⟨q0, ⟨_, q1⟩, -⟩ := hA; have q0e : r (.tmp 10) = .int .i64 n := q0; have q1e : r (.tmp 65) = .bool true := q1; exact ⟨⟨_, q1e, rfl⟩, by simp [go_sem, hr.const, hr.glob, q0e]⟩) ?_
          refine tab_call (v := .int .i64 (signI n)) (fun w1 hg => rsign_any n w1) (fun r w1 hr hg hA => by obtain ⟨⟨_, q0⟩, ⟨_, q1⟩, -⟩ := hA; have q0e : r (.tmp 70) = .int .i64 n := q0; have q1e : r (.tmp 65) = .bool true := q1; exact ⟨⟨_, q1e, rfl⟩, by simp [go_sem, hr.const, hr.func, q0e]⟩) ?_
          refine tab_val (.bool true) (fun r w1 hr hg hA => by obtain ⟨⟨_, q0⟩, ⟨_, q1⟩, ⟨_, q2⟩, -⟩ := hA; have q0e : r (.tmp 69) = .int .i64 (signI n) := q0; have q1e : r (.tmp 71) = .int .i64 (signI n) := q1; have q2e : r (.tmp 65) = .bool true := q2; exact ⟨⟨_, q2e, rfl⟩, by simp [go_sem, hr.const, hr.glob, q0e, q1e]⟩) ?_
          refine tab_val (.bool true) (fun r w1 hr hg hA => by obtain ⟨⟨_, q0⟩, ⟨_, q1⟩, -⟩ := hA; have q0e : r (.tmp 65) = .bool true := q0; have q1e : r (.tmp 72) = .bool true := q1; exact ⟨rfl, by simp [go_sem, hr.const, hr.glob, q0e, q1e]⟩) ?_
          refine tab_val (.bool true) (fun r w1 hr hg hA => by obtain ⟨⟨_, q0⟩, -⟩ := hA; have q0e : r (.tmp 73) = .bool true := q0; exact ⟨rfl, by simp [go_sem, hr.const, hr.glob, q0e]⟩) ?_
          refine tab_end ?_
          simp only [List.reverse_cons, List.reverse_nil, List.nil_append, List.cons_append, Out, forall_eq, forall_const, Act.put, List.setIfInBounds_toArray, List.set_cons_succ, List.set_cons_zero]
          intro wA hgA b36 v36 _ _ _ _ b41 v41 _ _ _ _
          have K2 := Lib.hid (G1.out.trans (K1.out.trans (hg1.trans hgA)))
          clear facts5 hg1 hg1' hgA hw0 G1 K1 S7 S8 S9
          go_wp2
          go_ret
          exact ⟨rfl, ((((Grows.refl w).al _).al _).al _).trans K2.out⟩

theorem law_areas (ax ay bx b_y cx cy : Int) (w : World) : Calls Try.prog 3 #[pt ax ay, pt bx b_y, pt cx cy] w (Ret (.bool true) w) := by
  refine law_areas_core ax ay bx b_y cx cy (crossP ax ay bx b_y cx cy) (mayB ax ay) (mayB bx b_y) (mayB cx cy) w (Lib.hid fun h => ?_) (Lib.hid (may_any ax ay)) (Lib.hid (may_any bx b_y)) (Lib.hid (may_any cx cy)) (Lib.hid fun h w => ?_) (Lib.hid (cross_any ax ay bx b_y cx cy)) (Lib.hid (turn_any ax ay bx b_y cx cy))
  · unfold crossP; rw [h]; rfl
  · unfold crossP; rw [if_pos h]
    simp only [Bool.and_eq_true] at h
    exact rcross_any' _ _ _ _ _ _ w h.1.1 h.1.2 h.2
end Go.Proofs.Ytkedcaplbdhmeaa
