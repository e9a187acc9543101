/-
  Layer 2: where the line of a Y cuts a segment; a number without its sign.
-/
import Derived.Test.YtlgplhanhnjeiaaS6
namespace Go.Proofs.Ytlgplhanhnjeiaa
open Go.RowKit Go.Tab

set_option maxHeartbeats 1000000 in
theorem turned_any (x y : Int) (w : World) : Calls Try.prog 28 #[pt x y] w (Ret (pt y x) w) := by
  go_enter Try.func28, Try.ntmps28
  go_wp2
  exact bodyPost_ret (v := pt y x) (by simp [results, Try.results28, go_sem]) rfl ⟨rfl, ((Grows.refl w).al _).al _⟩
theorem abs_any (n : Int) (w : World) (h1 : -9223372036854775807 ≤ n) (h2 : n ≤ 9223372036854775807) : Calls Try.prog 41 #[.int .i64 n] w (Ret (.int .i64 (if 0 ≤ n then n else -n)) w) := by
  by_cases h : 0 ≤ n
  · rw [if_pos h]
    go_enter Try.func41, Try.ntmps41
    go_wp2
    all_goals
      go_ret
      exact ⟨ret_int (by omega), Grows.refl _⟩
  · rw [if_neg h]
    go_enter Try.func41, Try.ntmps41
    go_wp2
    all_goals
      go_ret
      exact ⟨ret_int (by omega), Grows.refl _⟩
def atY (a b : Pt) (c : Int) : Int × Bool := atX (a.2, a.1) (b.2, b.1) c
set_option maxRecDepth 100000 in
set_option maxHeartbeats 2000000 in
theorem aty_any (a b : Pt) (c : Int) (w : World) : Calls Try.prog 16 #[pp a, pp b, .int .i64 c] w (Ret (pair (atY a b c).1 (atY a b c).2) w) := by
  obtain ⟨ax, ay⟩ := a
  obtain ⟨bx, b_y⟩ := b
  have HT := Lib.hid turned_any
  have HX := Lib.hid (atx_any (ay, ax) (b_y, bx) c)
  unfold atY
  simp only at HX ⊢
  generalize (atX (ay, ax) (b_y, bx) c).1 = r1 at HX ⊢
  generalize (atX (ay, ax) (b_y, bx) c).2 = r2 at HX ⊢
  go_enter Try.func16, Try.ntmps16
  go_wp2_with fail
  have B3 := Lib.hid ((Grows.alloc _ (.cells #[.int .i64 bx, .int .i64 b_y] 23)).block (heap_new w (.cells #[.int .i64 ax, .int .i64 ay] 23) _ rfl))
  have B4 := Lib.hid (heap_new (w.alloc (.cells #[.int .i64 ax, .int .i64 ay] 23)) (.cells #[.int .i64 bx, .int .i64 b_y] 23) (w.heap.size + 1) (by simp))
  have G := Lib.hid (((Grows.refl w).al (.cells #[.int .i64 ax, .int .i64 ay] 23)).al (.cells #[.int .i64 bx, .int .i64 b_y] 23))
  generalize (w.alloc (.cells #[.int .i64 ax, .int .i64 ay] 23)).alloc (.cells #[.int .i64 bx, .int .i64 b_y] 23) = wq at B3 B4 G ⊢
  have HF : Hid (∀ w', Grows wq w' → _) := Lib.hid (fun w' (hg : Grows wq w') => And.intro (cells2 (hg.block B3.out)) (cells2 (hg.block B4.out)))
  refine wp_region_tab 10 (by kernel_rfl) (by kernel_rfl) ?_
  intro w0 hw0 hg1 hg1'
  simp only [List.take_succ_cons, List.take_zero, List.drop_succ_cons, List.drop_zero]
  refine tab_val (.agg #[.int .i64 ax, .int .i64 ay]) (fun r w1 hr hg hA => by obtain ⟨q0, -⟩ := hA; have q0e : r (.tmp 3) = .pointer (some ⟨w.heap.size, 0, none⟩) := q0; have hc := HF.out w1 (hg1.trans hg); exact ⟨rfl, by simp [go_sem, q0e, hc]⟩) ?_
  refine tab_call (v := pt ay ax) (fun w1 hg => HT.out ax ay w1) (fun r w1 hr hg hA => by obtain ⟨⟨_, q0⟩, -⟩ := hA; have q0e : r (.tmp 8) = .agg #[.int .i64 ax, .int .i64 ay] := q0; exact ⟨rfl, by simp [go_sem, hr.func, q0e]⟩) ?_
  refine tab_val (.agg #[.int .i64 bx, .int .i64 b_y]) (fun r w1 hr hg hA => by obtain ⟨q0, -⟩ := hA; have q0e : r (.tmp 4) = .pointer (some ⟨w.heap.size + 1, 0, none⟩) := q0; have hc := HF.out w1 (hg1.trans hg); exact ⟨rfl, by simp [go_sem, q0e, hc]⟩) ?_
  refine tab_call (v := pt b_y bx) (fun w1 hg => HT.out bx b_y w1) (fun r w1 hr hg hA => by obtain ⟨⟨_, q0⟩, -⟩ := hA; have q0e : r (.tmp 10) = .agg #[.int .i64 bx, .int .i64 b_y] := q0; exact ⟨rfl, by simp [go_sem, hr.func, q0e]⟩) ?_
  refine tab_val (.int .i64 c) (fun r w1 hr hg hA => by obtain ⟨q0, -⟩ := hA; have q0e : r (.tmp 2) = .int .i64 c := q0; exact ⟨rfl, by simp [go_sem, q0e]⟩) ?_
  refine tab_call (v := pair r1 r2) (fun w1 hg => HX.out w1) (fun r w1 hr hg hA => by obtain ⟨⟨_, q0⟩, ⟨_, q1⟩, ⟨_, q2⟩, -⟩ := hA; have q0e : r (.tmp 9) = pt ay ax := q0; have q1e : r (.tmp 11) = pt b_y bx := q1; have q2e : r (.tmp 12) = .int .i64 c := q2; exact ⟨rfl, by simp [go_sem, hr.func, q0e, q1e, q2e]⟩) ?_
  refine tab_val (.int .i64 r1) (fun r w1 hr hg hA => by obtain ⟨⟨_, q0⟩, -⟩ := hA; have q0e : r (.tmp 13) = pair r1 r2 := q0; exact ⟨rfl, by simp [go_sem, q0e]⟩) ?_
  refine tab_val (.bool r2) (fun r w1 hr hg hA => by obtain ⟨⟨_, q0⟩, -⟩ := hA; have q0e : r (.tmp 13) = pair r1 r2 := q0; exact ⟨rfl, by simp [go_sem, q0e]⟩) ?_
  refine tab_val (.int .i64 r1) (fun r w1 hr hg hA => by obtain ⟨⟨_, q0⟩, -⟩ := hA; have q0e : r (.tmp 14) = .int .i64 r1 := q0; exact ⟨rfl, by simp [go_sem, q0e]⟩) ?_
  refine tab_val (.bool r2) (fun r w1 hr hg hA => by obtain ⟨⟨_, q0⟩, -⟩ := hA; have q0e : r (.tmp 15) = .bool r2 := q0; exact ⟨rfl, by simp [go_sem, q0e]⟩) ?_
  refine tab_end ?_
  simp only [List.reverse_cons, List.reverse_nil, List.nil_append, List.cons_append, Out, BlockP, forall_eq, forall_const, Act.put, List.setIfInBounds_toArray, List.set_cons_succ, List.set_cons_zero]
  intro wA hgA
  have GA := Lib.hid (G.out.trans (hg1.trans hgA))
  clear hg1 hgA hg1' hw0
  go_wp2
  go_ret2
  exact ⟨rfl, GA.out⟩
end Go.Proofs.Ytlgplhanhnjeiaa
