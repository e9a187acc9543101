/-
  Layer 22: the cuts of a segment, from whichever end it is told.
-/
import Derived.Test.YtlkihbehiojimaaK3
import Derived.Test.YtlkihbehiojimaaTQ
namespace Go.Proofs.Ytlkihbehiojimaa
open Go.RowKit Go.Tab Go.WideShapes

set_option maxHeartbeats 4000000 in
theorem atx_falls (ax ay bx_ b_y c : Int) (w : World) (hlt : bx_ < ax) : Calls Try.prog 22 #[pt ax ay, pt bx_ b_y, .int .i64 c] w (Ret (pair (atxP ax ay bx_ b_y c) (cutB ax ay bx_ b_y c)) w) := by
  obtain ⟨m, hm⟩ : ∃ m, m = (mayB ax ay && mayB bx_ b_y) := ⟨_, rfl⟩
  have HR : Hid (rightB [(bx_, b_y), (ax, ay)] = m) := Lib.hid (by rw [hm]; simp [rightB, Bool.and_comm])
  have HMM := Lib.hid hm
  clear hm
  have BX : Hid (∀ w', Grows ((w.alloc (.cells #[.int .i64 bx_, .int .i64 b_y] 24)).alloc (.cells #[.int .i64 ax, .int .i64 ay] 24)) w' →
      w'.cell? ⟨w.heap.size, 0, none⟩ = some (.int .i64 bx_) ∧ w'.cell? ⟨w.heap.size, 1, none⟩ = some (.int .i64 b_y) ∧ w'.cell? ⟨w.heap.size + 1, 0, none⟩ = some (.int .i64 ax) ∧ w'.cell? ⟨w.heap.size + 1, 1, none⟩ = some (.int .i64 ay)) := Lib.hid fun w' hg => box2 hg
  go_enter Try.func22, Try.ntmps22
  go_wp2_with fail
  refine (right_any _ [(bx_, b_y), (ax, ay)] _ (pts_block (heap_new _ _ _ (by simp only [World.size_alloc])) rfl (by simp))).mono ?_
  rw [HR.out]
  rintro _ w' ⟨rfl, hg⟩
  have HG := Lib.hid ((Grows.alloc _ _).trans hg)
  have Hg := Lib.hid ((((Grows.refl w).al _).al _).trans HG.out)
  clear hg
  cases m with
  | false =>
    have HC : Hid (cutB ax ay bx_ b_y c = false) := Lib.hid (by unfold cutB; rw [← HMM.out]; rfl)
    go_wp2
    go_ret2
    exact ⟨ret_pair (by unfold atxP; rw [HC.out]; rfl) HC.out.symm, Hg.out⟩
  | true =>
    have hmm := HMM.out.symm
    rw [Bool.and_eq_true, mayB_iff, mayB_iff] at hmm
    obtain ⟨⟨a1, a2, a3, a4⟩, b1, b2, b3, b4⟩ := hmm
    obtain ⟨c0, c1, c2, c3⟩ := BX.out _ HG.out
    by_cases hc : bx_ < c ∧ c < ax
    · obtain ⟨hc1, hc2⟩ := hc
      have HC : Hid (cutB ax ay bx_ b_y c = true) := Lib.hid (by unfold cutB; rw [← HMM.out]; simp; omega)
      obtain ⟨p1, p2⟩ := @mul_bd b_y (ax - bx_) 16777216 33554432 (by omega) (by omega) (by omega) (by omega)
      obtain ⟨p3, p4⟩ := @mul_bd (c - bx_) (ay - b_y) 33554432 33554432 (by omega) (by omega) (by omega) (by omega)
      have HD : Hid (divB (b_y * (ax - bx_) + (c - bx_) * (ay - b_y)) (ax - bx_) = true) := Lib.hid (divB_iff.2 (by omega))
      go_wp2_with fail
      refine (Round_any _ _ _).mono ?_
      rintro _ w2 ⟨rfl, hg⟩
      have Hg2 := Lib.hid (Hg.out.trans hg)
      clear hg p1 p2 p3 p4 c0 c1 c2 c3
      go_wp2
      go_ret2
      exact ⟨ret_pair (by unfold atxP atxV; rw [HC.out, if_pos rfl, if_neg (by omega)]) (by rw [HD.out, HC.out]), Hg2.out⟩
    · have HC : Hid (cutB ax ay bx_ b_y c = false) := Lib.hid (by unfold cutB; rw [← HMM.out]; simp; omega)
      by_cases h1 : c ≤ bx_
      · go_wp2
        go_ret2
        exact ⟨ret_pair (by unfold atxP; rw [HC.out]; rfl) HC.out.symm, Hg.out⟩
      · have h2 : ax ≤ c := by omega
        go_wp2
        go_ret2
        exact ⟨ret_pair (by unfold atxP; rw [HC.out]; rfl) HC.out.symm, Hg.out⟩
theorem atx_any (ax ay bx_ b_y c : Int) (w : World) : Calls Try.prog 22 #[pt ax ay, pt bx_ b_y, .int .i64 c] w (Ret (pair (atxP ax ay bx_ b_y c) (cutB ax ay bx_ b_y c)) w) := by
  by_cases h : ax ≤ bx_
  · exact atx_rises ax ay bx_ b_y c w h
  · exact atx_falls ax ay bx_ b_y c w (by omega)

set_option maxHeartbeats 1000000 in
theorem turned_any (x y : Int) (w : World) : Calls Try.prog 37 #[pt x y] w (Ret (pt y x) w) := by
  go_enter Try.func37, Try.ntmps37
  go_wp2
  refine bodyPost_ret (v := pt y x) (by simp [results, Try.results37, go_sem]) rfl ⟨rfl, ?_⟩
  exact ((Grows.refl w).al _).al _

set_option maxRecDepth 100000 in
set_option maxHeartbeats 2000000 in
theorem aty_any (ax ay bx_ b_y c : Int) (w : World) : Calls Try.prog 23 #[pt ax ay, pt bx_ b_y, .int .i64 c] w (Ret (pair (atxP ay ax b_y bx_ c) (cutB ay ax b_y bx_ c)) w) := by
  have HX := Lib.hid (atx_any ay ax b_y bx_ c)
  generalize atxP ay ax b_y bx_ c = v at HX
  generalize cutB ay ax b_y bx_ c = rb at HX
  have BX : Hid (∀ w', Grows ((w.alloc (.cells #[.int .i64 ax, .int .i64 ay] 24)).alloc (.cells #[.int .i64 bx_, .int .i64 b_y] 24)) w' →
      w'.cell? ⟨w.heap.size, 0, none⟩ = some (.int .i64 ax) ∧ w'.cell? ⟨w.heap.size, 1, none⟩ = some (.int .i64 ay) ∧ w'.cell? ⟨w.heap.size + 1, 0, none⟩ = some (.int .i64 bx_) ∧ w'.cell? ⟨w.heap.size + 1, 1, none⟩ = some (.int .i64 b_y)) := Lib.hid fun w' hg => box2 hg
  go_enter Try.func23, Try.ntmps23
  go_wp2_with fail
  refine wp_region_tab 8 (by kernel_rfl) (by kernel_rfl) ?_
  intro w0 hw0 hg1 hg1'
  simp only [List.take_succ_cons, List.take_zero, List.drop_succ_cons, List.drop_zero]
  refine tab_val (pt ax ay) (fun r w1 hr hg hA => by obtain ⟨q0, -⟩ := hA; have q0e : r (.tmp 3) = .pointer (some ⟨w.heap.size, 0, none⟩) := q0; have hc := BX.out _ (hg1.trans hg); exact ⟨rfl, by simp [go_sem, q0e, hc]⟩) ?_
  refine tab_call (v := pt ay ax) (fun w1 hg => turned_any ax ay w1) (fun r w1 hr hg hA => by obtain ⟨⟨_, q0⟩, -⟩ := hA; have q0e : r (.tmp 8) = pt ax ay := q0; exact ⟨rfl, by simp [go_sem, hr.func, q0e]⟩) ?_
  refine tab_val (pt bx_ b_y) (fun r w1 hr hg hA => by obtain ⟨q0, -⟩ := hA; have q0e : r (.tmp 4) = .pointer (some ⟨w.heap.size + 1, 0, none⟩) := q0; have hc := BX.out _ (hg1.trans hg); exact ⟨rfl, by simp [go_sem, q0e, hc]⟩) ?_
  refine tab_call (v := pt b_y bx_) (fun w1 hg => turned_any bx_ b_y w1) (fun r w1 hr hg hA => by obtain ⟨⟨_, q0⟩, -⟩ := hA; have q0e : r (.tmp 10) = pt bx_ b_y := q0; exact ⟨rfl, by simp [go_sem, hr.func, q0e]⟩) ?_
  refine tab_val (.int .i64 c) (fun r w1 hr hg hA => by obtain ⟨q0, -⟩ := hA; have q0e : r (.tmp 2) = .int .i64 c := q0; exact ⟨rfl, by simp [go_sem, q0e]⟩) ?_
  refine tab_call (v := pair v rb) (fun w1 hg => HX.out w1) (fun r w1 hr hg hA => by obtain ⟨⟨_, q0⟩, ⟨_, q1⟩, ⟨_, q2⟩, -⟩ := hA; have q0e : r (.tmp 9) = pt ay ax := q0; have q1e : r (.tmp 11) = pt b_y bx_ := q1; have q2e : r (.tmp 12) = .int .i64 c := q2; exact ⟨rfl, by simp [go_sem, hr.func, q0e, q1e, q2e]⟩) ?_
  refine tab_val (.int .i64 v) (fun r w1 hr hg hA => by obtain ⟨⟨_, q0⟩, -⟩ := hA; have q0e : r (.tmp 13) = pair v rb := q0; exact ⟨rfl, by simp [go_sem, q0e]⟩) ?_
  refine tab_val (.bool rb) (fun r w1 hr hg hA => by obtain ⟨⟨_, q0⟩, -⟩ := hA; have q0e : r (.tmp 13) = pair v rb := q0; exact ⟨rfl, by simp [go_sem, q0e]⟩) ?_
  refine tab_end ?_
  simp only [List.reverse_cons, List.reverse_nil, List.nil_append, List.cons_append, Out, BlockP, forall_eq, forall_const, Act.put, List.setIfInBounds_toArray, List.set_cons_succ, List.set_cons_zero]
  intro wA hgA
  have GA := Lib.hid ((((Grows.refl w).al _).al _).trans (hg1.trans hgA))
  clear hg1 hgA hg1' hw0
  go_wp2
  go_ret2
  exact ⟨rfl, GA.out⟩
end Go.Proofs.Ytlkihbehiojimaa
