/-
  Layer 1: within a triangle: the program's walk, with its closure.
-/
import Derived.Test.YtkedcaplbdhmeaaE5
namespace Go.Proofs.Ytkedcaplbdhmeaa
open Go.RowKit Go.Tab

theorem sign_bd (n : Int) : -1 ≤ signI n ∧ signI n ≤ 1 := by unfold signI; split <;> (try split) <;> omega

set_option maxHeartbeats 800000 in
theorem inside_any (fx fy tx ty px py way n : Int) (bp bw : Nat) (w : World) (hn1 : -1 ≤ n) (hn2 : n ≤ 1) (hw1 : -1 ≤ way) (hw2 : way ≤ 1) (hbp : bp < w.heap.size) (hbw : bw < w.heap.size)
    (hp0 : w.cell? ⟨bp, 0, none⟩ = some (.int .i64 px)) (hp1 : w.cell? ⟨bp, 1, none⟩ = some (.int .i64 py)) (hw0 : w.cell? ⟨bw, 0, none⟩ = some (.int .i64 way))
    (Ht : Hid (∀ w, Calls Try.prog 18 #[pt fx fy, pt tx ty, pt px py] w (Ret (.int .i64 n) w))) :
    Calls Try.prog 33 #[pt fx fy, pt tx ty, .pointer (some ⟨bp, 0, none⟩), .pointer (some ⟨bw, 0, none⟩)] w (Ret (.bool (decide (0 ≤ n * way))) w) := by
  have hcap : ∀ w1, Grows ((w.alloc (.cells #[.int .i64 fx, .int .i64 fy] 23)).alloc (.cells #[.int .i64 tx, .int .i64 ty] 23)) w1 →
      w1.cell? ⟨bp, 0, none⟩ = some (.int .i64 px) ∧ w1.cell? ⟨bp, 1, none⟩ = some (.int .i64 py) ∧ w1.cell? ⟨bw, 0, none⟩ = some (.int .i64 way) := fun w1 hg => by
    have h := (((Grows.refl w).al _).al _).trans hg
    rw [h.old.1 bp 0 hbp, h.old.1 bp 1 hbp, h.old.1 bw 0 hbw]
    exact ⟨hp0, hp1, hw0⟩
  obtain ⟨m1, m2⟩ := @mul_bd n way 1 1 (by omega) (by omega) (by omega) (by omega)
  clear hp0 hp1 hw0
  go_enter Try.func33, Try.ntmps33
  go_wp2
  refine wp_region_tab 8 (by kernel_rfl) (by kernel_rfl) ?_
  intro w0 hw0 hg1 hg1'
  simp only [List.take_succ_cons, List.take_zero, List.drop_succ_cons, List.drop_zero]
  · 
    refine tab_val (pt fx fy) (fun r w1 hr hg hA => by obtain ⟨q0, -⟩ := hA; have q0e : r (.tmp 4) = .pointer (some ⟨w.heap.size, 0, none⟩) := q0; have hc := And.intro (box2 (hg1.trans hg)) (hcap w1 (hg1.trans hg)); exact ⟨rfl, by simp [go_sem, hr.const, hr.glob, q0e, hc]⟩) ?_
    refine tab_val (pt tx ty) (fun r w1 hr hg hA => by obtain ⟨q0, -⟩ := hA; have q0e : r (.tmp 5) = .pointer (some ⟨w.heap.size + 1, 0, none⟩) := q0; have hc := And.intro (box2 (hg1.trans hg)) (hcap w1 (hg1.trans hg)); exact ⟨rfl, by simp [go_sem, hr.const, hr.glob, q0e, hc]⟩) ?_
    refine tab_val (pt px py) (fun r w1 hr hg hA => by obtain ⟨q0, -⟩ := hA; have q0e : r (.tmp 2) = .pointer (some ⟨bp, 0, none⟩) := q0; have hc := And.intro (box2 (hg1.trans hg)) (hcap w1 (hg1.trans hg)); exact ⟨rfl, by simp [go_sem, hr.const, hr.glob, q0e, hc]⟩) ?_
    refine tab_call (v := .int .i64 n) (fun w1 hg => Ht.out w1) (fun r w1 hr hg hA => by obtain ⟨⟨_, q0⟩, ⟨_, q1⟩, ⟨_, q2⟩, -⟩ := hA; have q0e : r (.tmp 7) = pt fx fy := q0; have q1e : r (.tmp 8) = pt tx ty := q1; have q2e : r (.tmp 9) = pt px py := q2; exact ⟨rfl, by simp [go_sem, hr.const, hr.func, q0e, q1e, q2e]⟩) ?_
    refine tab_val (.int .i64 way) (fun r w1 hr hg hA => by obtain ⟨q0, -⟩ := hA; have q0e : r (.tmp 3) = .pointer (some ⟨bw, 0, none⟩) := q0; have hc := And.intro (box2 (hg1.trans hg)) (hcap w1 (hg1.trans hg)); exact ⟨rfl, by simp [go_sem, hr.const, hr.glob, q0e, hc]⟩) ?_
    refine tab_val (.int .i64 (n * way)) (fun r w1 hr hg hA => by obtain ⟨⟨_, q0⟩, ⟨_, q1⟩, -⟩ := hA; have q0e : r (.tmp 10) = .int .i64 n := q0; have q1e : r (.tmp 11) = .int .i64 way := q1; exact ⟨rfl, by simp [go_sem, hr.const, hr.glob, q0e, q1e, IntWalk.i64_in (n * way) (by omega)]⟩) ?_
    refine tab_val (.bool (decide (0 ≤ n * way))) (fun r w1 hr hg hA => by obtain ⟨⟨_, q0⟩, -⟩ := hA; have q0e : r (.tmp 12) = .int .i64 (n * way) := q0; exact ⟨rfl, by simp [go_sem, hr.const, hr.glob, q0e]⟩) ?_
    refine tab_val (.bool (decide (0 ≤ n * way))) (fun r w1 hr hg hA => by obtain ⟨⟨_, q0⟩, -⟩ := hA; have q0e : r (.tmp 13) = .bool (decide (0 ≤ n * way)) := q0; exact ⟨rfl, by simp [go_sem, hr.const, hr.glob, q0e]⟩) ?_
    refine tab_end ?_
    simp only [List.reverse_cons, List.reverse_nil, List.nil_append, List.cons_append, Out, forall_eq, forall_const, Act.put, List.setIfInBounds_toArray, List.set_cons_succ, List.set_cons_zero]
    intro wA hgA
    have G1 := Lib.hid (hg1.trans hgA)
    clear hg1 hg1' hw0 hgA hcap
    go_wp2
    go_ret
    exact ⟨rfl, (((Grows.refl w).al _).al _).trans G1.out⟩
end Go.Proofs.Ytkedcaplbdhmeaa
