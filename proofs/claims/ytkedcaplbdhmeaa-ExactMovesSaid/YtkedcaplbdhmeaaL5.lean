/-
  The law on moves.
-/
import Derived.Test.YtkedcaplbdhmeaaL3
namespace Go.Proofs.Ytkedcaplbdhmeaa
open Go.RowKit Go.Tab

theorem small_of {x y : Int} (h1 : decide (4194304 < max x y) = false) (h2 : decide (min x y < -4194304) = false) : -4194304 ≤ x ∧ x ≤ 4194304 ∧ -4194304 ≤ y ∧ y ≤ 4194304 := by
  simp only [decide_eq_false_iff_not] at h1 h2; omega

theorem cells10 {w : World} {b : Nat} {v0 v1 v2 v3 v4 v5 v6 v7 v8 v9 : Value} {T : TypeId} (h : w.heap[b]? = some (.cells #[v0, v1, v2, v3, v4, v5, v6, v7, v8, v9] T (0, 0))) :
    w.cell? ⟨b, 0, none⟩ = some v0 ∧ w.cell? ⟨b, 1, none⟩ = some v1 ∧ w.cell? ⟨b, 2, none⟩ = some v2 ∧ w.cell? ⟨b, 3, none⟩ = some v3 ∧ w.cell? ⟨b, 4, none⟩ = some v4 ∧ w.cell? ⟨b, 5, none⟩ = some v5 ∧ w.cell? ⟨b, 6, none⟩ = some v6 ∧ w.cell? ⟨b, 7, none⟩ = some v7 ∧ w.cell? ⟨b, 8, none⟩ = some v8 ∧ w.cell? ⟨b, 9, none⟩ = some v9 := by
  refine ⟨?_, ?_, ?_, ?_, ?_, ?_, ?_, ?_, ?_, ?_⟩ <;> simp [World.cell?, h]
theorem froz10 {w : World} {b : Nat} {v0 v1 v2 v3 v4 v5 v6 v7 v8 v9 : Value} {T : TypeId} (h : w.heap[b]? = some (.cells #[v0, v1, v2, v3, v4, v5, v6, v7, v8, v9] T (0, 0))) :
    w.frozen? ⟨b, 0, none⟩ = false ∧ w.frozen? ⟨b, 1, none⟩ = false ∧ w.frozen? ⟨b, 2, none⟩ = false ∧ w.frozen? ⟨b, 3, none⟩ = false ∧ w.frozen? ⟨b, 4, none⟩ = false ∧ w.frozen? ⟨b, 5, none⟩ = false ∧ w.frozen? ⟨b, 6, none⟩ = false ∧ w.frozen? ⟨b, 7, none⟩ = false ∧ w.frozen? ⟨b, 8, none⟩ = false ∧ w.frozen? ⟨b, 9, none⟩ = false := by
  refine ⟨?_, ?_, ?_, ?_, ?_, ?_, ?_, ?_, ?_, ?_⟩ <;> simp [World.frozen?, h]
theorem set10_0 {w : World} {b : Nat} {v0 v1 v2 v3 v4 v5 v6 v7 v8 v9 x y : Value} {T : TypeId} (h : w.heap[b]? = some (.cells #[v0, v1, v2, v3, v4, v5, v6, v7, v8, v9] T (0, 0))) :
    ((w.setCell ⟨b, 0, none⟩ x).setCell ⟨b, 1, none⟩ y).heap[b]? = some (.cells #[x, y, v2, v3, v4, v5, v6, v7, v8, v9] T (0, 0)) := by
  simp [World.setCell, Array.getElem?_modify, h]
theorem set10_1 {w : World} {b : Nat} {v0 v1 v2 v3 v4 v5 v6 v7 v8 v9 x y : Value} {T : TypeId} (h : w.heap[b]? = some (.cells #[v0, v1, v2, v3, v4, v5, v6, v7, v8, v9] T (0, 0))) :
    ((w.setCell ⟨b, 2, none⟩ x).setCell ⟨b, 3, none⟩ y).heap[b]? = some (.cells #[v0, v1, x, y, v4, v5, v6, v7, v8, v9] T (0, 0)) := by
  simp [World.setCell, Array.getElem?_modify, h]
theorem set10_2 {w : World} {b : Nat} {v0 v1 v2 v3 v4 v5 v6 v7 v8 v9 x y : Value} {T : TypeId} (h : w.heap[b]? = some (.cells #[v0, v1, v2, v3, v4, v5, v6, v7, v8, v9] T (0, 0))) :
    ((w.setCell ⟨b, 4, none⟩ x).setCell ⟨b, 5, none⟩ y).heap[b]? = some (.cells #[v0, v1, v2, v3, x, y, v6, v7, v8, v9] T (0, 0)) := by
  simp [World.setCell, Array.getElem?_modify, h]
theorem set10_3 {w : World} {b : Nat} {v0 v1 v2 v3 v4 v5 v6 v7 v8 v9 x y : Value} {T : TypeId} (h : w.heap[b]? = some (.cells #[v0, v1, v2, v3, v4, v5, v6, v7, v8, v9] T (0, 0))) :
    ((w.setCell ⟨b, 6, none⟩ x).setCell ⟨b, 7, none⟩ y).heap[b]? = some (.cells #[v0, v1, v2, v3, v4, v5, x, y, v8, v9] T (0, 0)) := by
  simp [World.setCell, Array.getElem?_modify, h]

set_option maxRecDepth 100000 in
set_option maxHeartbeats 8000000 in
theorem moves_small (ax ay bx b_y cx cy px py tx ty n m : Int) (o i l : Bool) (w : World)
    (a1 : decide (4194304 < max ax ay) = false) (a2 : decide (min ax ay < -4194304) = false)
    (b1 : decide (4194304 < max bx b_y) = false) (b2 : decide (min bx b_y < -4194304) = false)
    (c1 : decide (4194304 < max cx cy) = false) (c2 : decide (min cx cy < -4194304) = false)
    (p1 : decide (4194304 < max px py) = false) (p2 : decide (min px py < -4194304) = false)
    (t1 : decide (4194304 < max tx ty) = false) (t2 : decide (min tx ty < -4194304) = false)
    (C1 : Hid (∀ w, Calls Try.prog 17 #[pt (ax + tx) (ay + ty), pt (bx + tx) (b_y + ty), pt (cx + tx) (cy + ty)] w (Ret (.int .i64 n) w)))
    (C2 : Hid (∀ w, Calls Try.prog 17 #[pt ax ay, pt bx b_y, pt cx cy] w (Ret (.int .i64 n) w)))
    (T1 : Hid (∀ w, Calls Try.prog 18 #[pt (ax + tx) (ay + ty), pt (bx + tx) (b_y + ty), pt (px + tx) (py + ty)] w (Ret (.int .i64 m) w)))
    (T2 : Hid (∀ w, Calls Try.prog 18 #[pt ax ay, pt bx b_y, pt px py] w (Ret (.int .i64 m) w)))
    (O1 : Hid (∀ w, Calls Try.prog 22 #[pt (ax + tx) (ay + ty), pt (bx + tx) (b_y + ty), pt (px + tx) (py + ty)] w (Ret (.bool o) w)))
    (O2 : Hid (∀ w, Calls Try.prog 22 #[pt ax ay, pt bx b_y, pt px py] w (Ret (.bool o) w)))
    (I1 : Hid (∀ w, Calls Try.prog 23 #[pt (ax + tx) (ay + ty), pt (bx + tx) (b_y + ty), pt (cx + tx) (cy + ty), pt (px + tx) (py + ty)] w (Ret (.bool i) w)))
    (I2 : Hid (∀ w, Calls Try.prog 23 #[pt ax ay, pt bx b_y, pt cx cy, pt px py] w (Ret (.bool i) w)))
    (L1 : Hid (∀ w, Calls Try.prog 15 #[pt (ax + tx) (ay + ty), pt (bx + tx) (b_y + ty)] w (Ret (.bool l) w)))
    (L2 : Hid (∀ w, Calls Try.prog 15 #[pt ax ay, pt bx b_y] w (Ret (.bool l) w))) :
    Calls Try.prog 8 #[pt ax ay, pt bx b_y, pt cx cy, pt px py, pt tx ty] w (Ret (.bool true) w) := by
  have hmx : ∀ a b : Int, (if a < b then b else a) = max a b := fun a b => by omega
  have hmn : ∀ a b : Int, (if b < a then b else a) = min a b := fun a b => by omega
  obtain ⟨ax1, ax2, ay1, ay2⟩ := small_of a1 a2
  obtain ⟨bx1, bx2, by1, by2⟩ := small_of b1 b2
  obtain ⟨cx1, cx2, cy1, cy2⟩ := small_of c1 c2
  obtain ⟨px1, px2, py1, py2⟩ := small_of p1 p2
  obtain ⟨tx1, tx2, ty1, ty2⟩ := small_of t1 t2
  go_enter Try.func8, Try.ntmps8
  go_wp2
  refine wp_loop_rounds 6 ?_; rw [rounds_succ]
  go_wp2
  go_quiet (fail)
  obtain ⟨n1, rfl⟩ : ∃ k, k = nq := ⟨_, rfl⟩
  go_wp2
  rw [rounds_succ]
  go_wp2
  go_quiet (fail)
  obtain ⟨n2, rfl⟩ : ∃ k, k = nq := ⟨_, rfl⟩
  go_wp2
  rw [rounds_succ]
  go_wp2
  go_quiet (fail)
  obtain ⟨n3, rfl⟩ : ∃ k, k = nq := ⟨_, rfl⟩
  go_wp2
  rw [rounds_succ]
  go_wp2
  go_quiet (fail)
  obtain ⟨n4, rfl⟩ : ∃ k, k = nq := ⟨_, rfl⟩
  go_wp2
  rw [rounds_succ]
  go_wp2
  go_quiet (fail)
  obtain ⟨n5, rfl⟩ : ∃ k, k = nq := ⟨_, rfl⟩
  go_wp2
  rw [rounds_succ]
  go_wp2
  have hb : (World.drewN ((((((w.alloc (.cells #[.int .i64 ax, .int .i64 ay] 23)).alloc (.cells #[.int .i64 bx, .int .i64 b_y] 23)).alloc (.cells #[.int .i64 cx, .int .i64 cy] 23)).alloc (.cells #[.int .i64 px, .int .i64 py] 23)).alloc (.cells #[.int .i64 tx, .int .i64 ty] 23)).alloc (.cells #[.int .i64 ax, .int .i64 ay, .int .i64 bx, .int .i64 b_y, .int .i64 cx, .int .i64 cy, .int .i64 px, .int .i64 py, .int .i64 tx, .int .i64 ty] 23)) (n1 + n2 + n3 + n4 + n5)).heap[w.heap.size + 1 + 1 + 1 + 1 + 1]? = some (.cells #[.int .i64 ax, .int .i64 ay, .int .i64 bx, .int .i64 b_y, .int .i64 cx, .int .i64 cy, .int .i64 px, .int .i64 py, .int .i64 tx, .int .i64 ty] 23 (0, 0)) := heap_new _ _ _ (by simp only [World.size_alloc])
  have hG : Grows (((((w.alloc (.cells #[.int .i64 ax, .int .i64 ay] 23)).alloc (.cells #[.int .i64 bx, .int .i64 b_y] 23)).alloc (.cells #[.int .i64 cx, .int .i64 cy] 23)).alloc (.cells #[.int .i64 px, .int .i64 py] 23)).alloc (.cells #[.int .i64 tx, .int .i64 ty] 23)) (World.drewN ((((((w.alloc (.cells #[.int .i64 ax, .int .i64 ay] 23)).alloc (.cells #[.int .i64 bx, .int .i64 b_y] 23)).alloc (.cells #[.int .i64 cx, .int .i64 cy] 23)).alloc (.cells #[.int .i64 px, .int .i64 py] 23)).alloc (.cells #[.int .i64 tx, .int .i64 ty] 23)).alloc (.cells #[.int .i64 ax, .int .i64 ay, .int .i64 bx, .int .i64 b_y, .int .i64 cx, .int .i64 cy, .int .i64 px, .int .i64 py, .int .i64 tx, .int .i64 ty] 23)) (n1 + n2 + n3 + n4 + n5)) := ⟨rfl, rfl, rfl, by show _ ≤ (World.alloc _ _).heap.size; simp only [World.size_alloc]; omega, fun k hk => Below.heap_alloc _ _ _ hk⟩
  have Hb := Lib.hid hb
  have G := Lib.hid hG
  clear hb hG
  generalize World.drewN ((((((w.alloc (.cells #[.int .i64 ax, .int .i64 ay] 23)).alloc (.cells #[.int .i64 bx, .int .i64 b_y] 23)).alloc (.cells #[.int .i64 cx, .int .i64 cy] 23)).alloc (.cells #[.int .i64 px, .int .i64 py] 23)).alloc (.cells #[.int .i64 tx, .int .i64 ty] 23)).alloc (.cells #[.int .i64 ax, .int .i64 ay, .int .i64 bx, .int .i64 b_y, .int .i64 cx, .int .i64 cy, .int .i64 px, .int .i64 py, .int .i64 tx, .int .i64 ty] 23)) (n1 + n2 + n3 + n4 + n5) = wc at Hb G ⊢
  clear a1 a2 b1 b2 c1 c2 p1 p2 t1 t2 hmx hmn n1 n2 n3 n4 n5
  refine wp_loop_rounds 5 ?_; rw [rounds_succ]
  go_wp2
  refine wp_region_tab 20 (by kernel_rfl) (by kernel_rfl) ?_
  intro w0 hw0 hg1 hg1'
  simp only [List.take_succ_cons, List.take_zero, List.drop_succ_cons, List.drop_zero]
  refine tab_val (.slice (some ⟨w.heap.size + 1 + 1 + 1 + 1 + 1, 0, none⟩) 5 5) (fun r w1 hr hg hA => by obtain ⟨q0, -⟩ := hA; have q0e : r (.tmp 11) = .slice (some ⟨w.heap.size + 1 + 1 + 1 + 1 + 1, 0, none⟩) 5 5 := q0; exact ⟨rfl, by simp [go_sem, q0e]⟩) ?_
  refine tab_val (.int .i64 0) (fun r w1 hr hg hA => by obtain ⟨q0, -⟩ := hA; have q0e : r (.tmp 13) = .int .i64 0 := q0; exact ⟨rfl, by simp [go_sem, q0e]⟩) ?_
  refine tab_val (.slice (some ⟨w.heap.size + 1 + 1 + 1 + 1 + 1, 0, none⟩) 5 5) (fun r w1 hr hg hA => by obtain ⟨q0, -⟩ := hA; have q0e : r (.tmp 11) = .slice (some ⟨w.heap.size + 1 + 1 + 1 + 1 + 1, 0, none⟩) 5 5 := q0; exact ⟨rfl, by simp [go_sem, q0e]⟩) ?_
  refine tab_val (.int .i64 0) (fun r w1 hr hg hA => by obtain ⟨q0, -⟩ := hA; have q0e : r (.tmp 13) = .int .i64 0 := q0; exact ⟨rfl, by simp [go_sem, q0e]⟩) ?_
  refine tab_val (.pointer (some ⟨w.heap.size + 1 + 1 + 1 + 1 + 1, 0, none⟩)) (fun r w1 hr hg hA => by obtain ⟨⟨_, q0⟩, ⟨_, q1⟩, -⟩ := hA; have q0e : r (.tmp 59) = .slice (some ⟨w.heap.size + 1 + 1 + 1 + 1 + 1, 0, none⟩) 5 5 := q0; have q1e : r (.tmp 60) = .int .i64 0 := q1; exact ⟨rfl, by simp [go_sem, q0e, q1e]⟩) ?_
  refine tab_val (.pointer (some ⟨w.heap.size + 1 + 1 + 1 + 1 + 1, 0, none⟩)) (fun r w1 hr hg hA => by obtain ⟨⟨_, q0⟩, -⟩ := hA; have q0e : r (.tmp 61) = .pointer (some ⟨w.heap.size + 1 + 1 + 1 + 1 + 1, 0, none⟩) := q0; exact ⟨rfl, by simp [go_sem, q0e]⟩) ?_
  refine tab_val (.int .i64 ax) (fun r w1 hr hg hA => by obtain ⟨⟨_, q0⟩, -⟩ := hA; have q0e : r (.tmp 62) = .pointer (some ⟨w.heap.size + 1 + 1 + 1 + 1 + 1, 0, none⟩) := q0; have hc := And.intro (box5 (G.out.trans (hg1.trans hg))) (cells10 (Grows.block (hg1.trans hg) Hb.out)); exact ⟨rfl, by simp [go_sem, q0e, hc]⟩) ?_
  refine tab_val (.pointer (some ⟨w.heap.size + 1 + 1 + 1 + 1, 0, none⟩)) (fun r w1 hr hg hA => by obtain ⟨q0, -⟩ := hA; have q0e : r (.tmp 9) = .pointer (some ⟨w.heap.size + 1 + 1 + 1 + 1, 0, none⟩) := q0; exact ⟨rfl, by simp [go_sem, q0e]⟩) ?_
  refine tab_val (.int .i64 tx) (fun r w1 hr hg hA => by obtain ⟨⟨_, q0⟩, -⟩ := hA; have q0e : r (.tmp 64) = .pointer (some ⟨w.heap.size + 1 + 1 + 1 + 1, 0, none⟩) := q0; have hc := And.intro (box5 (G.out.trans (hg1.trans hg))) (cells10 (Grows.block (hg1.trans hg) Hb.out)); exact ⟨rfl, by simp [go_sem, q0e, hc]⟩) ?_
  refine tab_val (.int .i64 (ax + tx)) (fun r w1 hr hg hA => by obtain ⟨⟨_, q0⟩, ⟨_, q1⟩, -⟩ := hA; have q0e : r (.tmp 63) = .int .i64 ax := q0; have q1e : r (.tmp 65) = .int .i64 tx := q1; exact ⟨rfl, by simp [go_sem, q0e, q1e, IntWalk.i64_in (ax + tx) (by omega)]⟩) ?_
  refine tab_val (.slice (some ⟨w.heap.size + 1 + 1 + 1 + 1 + 1, 0, none⟩) 5 5) (fun r w1 hr hg hA => by obtain ⟨q0, -⟩ := hA; have q0e : r (.tmp 11) = .slice (some ⟨w.heap.size + 1 + 1 + 1 + 1 + 1, 0, none⟩) 5 5 := q0; exact ⟨rfl, by simp [go_sem, q0e]⟩) ?_
  refine tab_val (.int .i64 0) (fun r w1 hr hg hA => by obtain ⟨q0, -⟩ := hA; have q0e : r (.tmp 13) = .int .i64 0 := q0; exact ⟨rfl, by simp [go_sem, q0e]⟩) ?_
  refine tab_val (.pointer (some ⟨w.heap.size + 1 + 1 + 1 + 1 + 1, 0, none⟩)) (fun r w1 hr hg hA => by obtain ⟨⟨_, q0⟩, ⟨_, q1⟩, -⟩ := hA; have q0e : r (.tmp 67) = .slice (some ⟨w.heap.size + 1 + 1 + 1 + 1 + 1, 0, none⟩) 5 5 := q0; have q1e : r (.tmp 68) = .int .i64 0 := q1; exact ⟨rfl, by simp [go_sem, q0e, q1e]⟩) ?_
  refine tab_val (.pointer (some ⟨w.heap.size + 1 + 1 + 1 + 1 + 1, 1, none⟩)) (fun r w1 hr hg hA => by obtain ⟨⟨_, q0⟩, -⟩ := hA; have q0e : r (.tmp 69) = .pointer (some ⟨w.heap.size + 1 + 1 + 1 + 1 + 1, 0, none⟩) := q0; exact ⟨rfl, by simp [go_sem, q0e]⟩) ?_
  refine tab_val (.int .i64 ay) (fun r w1 hr hg hA => by obtain ⟨⟨_, q0⟩, -⟩ := hA; have q0e : r (.tmp 70) = .pointer (some ⟨w.heap.size + 1 + 1 + 1 + 1 + 1, 1, none⟩) := q0; have hc := And.intro (box5 (G.out.trans (hg1.trans hg))) (cells10 (Grows.block (hg1.trans hg) Hb.out)); exact ⟨rfl, by simp [go_sem, q0e, hc]⟩) ?_
  refine tab_val (.pointer (some ⟨w.heap.size + 1 + 1 + 1 + 1, 1, none⟩)) (fun r w1 hr hg hA => by obtain ⟨q0, -⟩ := hA; have q0e : r (.tmp 9) = .pointer (some ⟨w.heap.size + 1 + 1 + 1 + 1, 0, none⟩) := q0; exact ⟨rfl, by simp [go_sem, q0e]⟩) ?_
  refine tab_val (.int .i64 ty) (fun r w1 hr hg hA => by obtain ⟨⟨_, q0⟩, -⟩ := hA; have q0e : r (.tmp 72) = .pointer (some ⟨w.heap.size + 1 + 1 + 1 + 1, 1, none⟩) := q0; have hc := And.intro (box5 (G.out.trans (hg1.trans hg))) (cells10 (Grows.block (hg1.trans hg) Hb.out)); exact ⟨rfl, by simp [go_sem, q0e, hc]⟩) ?_
  refine tab_val (.int .i64 (ay + ty)) (fun r w1 hr hg hA => by obtain ⟨⟨_, q0⟩, ⟨_, q1⟩, -⟩ := hA; have q0e : r (.tmp 71) = .int .i64 ay := q0; have q1e : r (.tmp 73) = .int .i64 ty := q1; exact ⟨rfl, by simp [go_sem, q0e, q1e, IntWalk.i64_in (ay + ty) (by omega)]⟩) ?_
  refine tab_val (pt (ax + tx) (ay + ty)) (fun r w1 hr hg hA => by obtain ⟨⟨_, q0⟩, ⟨_, q1⟩, -⟩ := hA; have q0e : r (.tmp 66) = .int .i64 (ax + tx) := q0; have q1e : r (.tmp 74) = .int .i64 (ay + ty) := q1; exact ⟨rfl, by simp [go_sem, q0e, q1e]⟩) ?_
  refine tab_val (.pointer (some ⟨w.heap.size + 1 + 1 + 1 + 1 + 1, 0, none⟩)) (fun r w1 hr hg hA => by obtain ⟨⟨_, q0⟩, ⟨_, q1⟩, -⟩ := hA; have q0e : r (.tmp 57) = .slice (some ⟨w.heap.size + 1 + 1 + 1 + 1 + 1, 0, none⟩) 5 5 := q0; have q1e : r (.tmp 58) = .int .i64 0 := q1; exact ⟨rfl, by simp [go_sem, q0e, q1e]⟩) ?_
  refine tab_end ?_
  simp only [List.reverse_cons, List.reverse_nil, List.nil_append, List.cons_append, Out, forall_eq, forall_const, Act.put, List.setIfInBounds_toArray, List.set_cons_succ, List.set_cons_zero]
  intro wA hgA
  have hg := hg1.trans hgA
  have hb := Grows.block hg Hb.out
  have hG := G.out.trans hg
  obtain ⟨k0, k1, k2, k3, k4, k5, k6, k7, k8, k9⟩ := cells10 hb
  obtain ⟨f0, f1, f2, f3, f4, f5, f6, f7, f8, f9⟩ := froz10 hb
  have hb2 := set10_0 (x := .int .i64 (ax + tx)) (y := .int .i64 (ay + ty)) hb
  have hG2 := (hG.st (p := ⟨w.heap.size + 1 + 1 + 1 + 1 + 1, 0, none⟩) (by simp only [World.size_alloc]; omega) (.int .i64 (ax + tx))).st (p := ⟨w.heap.size + 1 + 1 + 1 + 1 + 1, 1, none⟩) (by simp only [World.size_alloc]; omega) (.int .i64 (ay + ty))
  have G2 := Lib.hid hG2
  have Hb2 := Lib.hid hb2
  clear G Hb hg hb hG hb2 hG2 hw0 hg1 hg1' hgA
  go_wp2
  generalize ((wA.setCell ⟨w.heap.size + 1 + 1 + 1 + 1 + 1, 0, none⟩ (.int .i64 (ax + tx))).setCell ⟨w.heap.size + 1 + 1 + 1 + 1 + 1, 1, none⟩ (.int .i64 (ay + ty))) = wc at G2 Hb2 ⊢
  have G := G2
  have Hb := Hb2
  clear G2 Hb2 k0 k1 k2 k3 k4 k5 k6 k7 k8 k9 f0 f1 f2 f3 f4 f5 f6 f7 f8 f9
  rw [rounds_succ]

  go_wp2
  refine wp_region_tab 20 (by kernel_rfl) (by kernel_rfl) ?_
  intro w0 hw0 hg1 hg1'
  simp only [List.take_succ_cons, List.take_zero, List.drop_succ_cons, List.drop_zero]
  refine tab_val (.slice (some ⟨w.heap.size + 1 + 1 + 1 + 1 + 1, 0, none⟩) 5 5) (fun r w1 hr hg hA => by obtain ⟨q0, -⟩ := hA; have q0e : r (.tmp 11) = .slice (some ⟨w.heap.size + 1 + 1 + 1 + 1 + 1, 0, none⟩) 5 5 := q0; exact ⟨rfl, by simp [go_sem, q0e]⟩) ?_
  refine tab_val (.int .i64 1) (fun r w1 hr hg hA => by obtain ⟨q0, -⟩ := hA; have q0e : r (.tmp 13) = .int .i64 1 := q0; exact ⟨rfl, by simp [go_sem, q0e]⟩) ?_
  refine tab_val (.slice (some ⟨w.heap.size + 1 + 1 + 1 + 1 + 1, 0, none⟩) 5 5) (fun r w1 hr hg hA => by obtain ⟨q0, -⟩ := hA; have q0e : r (.tmp 11) = .slice (some ⟨w.heap.size + 1 + 1 + 1 + 1 + 1, 0, none⟩) 5 5 := q0; exact ⟨rfl, by simp [go_sem, q0e]⟩) ?_
  refine tab_val (.int .i64 1) (fun r w1 hr hg hA => by obtain ⟨q0, -⟩ := hA; have q0e : r (.tmp 13) = .int .i64 1 := q0; exact ⟨rfl, by simp [go_sem, q0e]⟩) ?_
  refine tab_val (.pointer (some ⟨w.heap.size + 1 + 1 + 1 + 1 + 1, 2, none⟩)) (fun r w1 hr hg hA => by obtain ⟨⟨_, q0⟩, ⟨_, q1⟩, -⟩ := hA; have q0e : r (.tmp 59) = .slice (some ⟨w.heap.size + 1 + 1 + 1 + 1 + 1, 0, none⟩) 5 5 := q0; have q1e : r (.tmp 60) = .int .i64 1 := q1; exact ⟨rfl, by simp [go_sem, q0e, q1e]⟩) ?_
  refine tab_val (.pointer (some ⟨w.heap.size + 1 + 1 + 1 + 1 + 1, 2, none⟩)) (fun r w1 hr hg hA => by obtain ⟨⟨_, q0⟩, -⟩ := hA; have q0e : r (.tmp 61) = .pointer (some ⟨w.heap.size + 1 + 1 + 1 + 1 + 1, 2, none⟩) := q0; exact ⟨rfl, by simp [go_sem, q0e]⟩) ?_
  refine tab_val (.int .i64 bx) (fun r w1 hr hg hA => by obtain ⟨⟨_, q0⟩, -⟩ := hA; have q0e : r (.tmp 62) = .pointer (some ⟨w.heap.size + 1 + 1 + 1 + 1 + 1, 2, none⟩) := q0; have hc := And.intro (box5 (G.out.trans (hg1.trans hg))) (cells10 (Grows.block (hg1.trans hg) Hb.out)); exact ⟨rfl, by simp [go_sem, q0e, hc]⟩) ?_
  refine tab_val (.pointer (some ⟨w.heap.size + 1 + 1 + 1 + 1, 0, none⟩)) (fun r w1 hr hg hA => by obtain ⟨q0, -⟩ := hA; have q0e : r (.tmp 9) = .pointer (some ⟨w.heap.size + 1 + 1 + 1 + 1, 0, none⟩) := q0; exact ⟨rfl, by simp [go_sem, q0e]⟩) ?_
  refine tab_val (.int .i64 tx) (fun r w1 hr hg hA => by obtain ⟨⟨_, q0⟩, -⟩ := hA; have q0e : r (.tmp 64) = .pointer (some ⟨w.heap.size + 1 + 1 + 1 + 1, 0, none⟩) := q0; have hc := And.intro (box5 (G.out.trans (hg1.trans hg))) (cells10 (Grows.block (hg1.trans hg) Hb.out)); exact ⟨rfl, by simp [go_sem, q0e, hc]⟩) ?_
  refine tab_val (.int .i64 (bx + tx)) (fun r w1 hr hg hA => by obtain ⟨⟨_, q0⟩, ⟨_, q1⟩, -⟩ := hA; have q0e : r (.tmp 63) = .int .i64 bx := q0; have q1e : r (.tmp 65) = .int .i64 tx := q1; exact ⟨rfl, by simp [go_sem, q0e, q1e, IntWalk.i64_in (bx + tx) (by omega)]⟩) ?_
  refine tab_val (.slice (some ⟨w.heap.size + 1 + 1 + 1 + 1 + 1, 0, none⟩) 5 5) (fun r w1 hr hg hA => by obtain ⟨q0, -⟩ := hA; have q0e : r (.tmp 11) = .slice (some ⟨w.heap.size + 1 + 1 + 1 + 1 + 1, 0, none⟩) 5 5 := q0; exact ⟨rfl, by simp [go_sem, q0e]⟩) ?_
  refine tab_val (.int .i64 1) (fun r w1 hr hg hA => by obtain ⟨q0, -⟩ := hA; have q0e : r (.tmp 13) = .int .i64 1 := q0; exact ⟨rfl, by simp [go_sem, q0e]⟩) ?_
  refine tab_val (.pointer (some ⟨w.heap.size + 1 + 1 + 1 + 1 + 1, 2, none⟩)) (fun r w1 hr hg hA => by obtain ⟨⟨_, q0⟩, ⟨_, q1⟩, -⟩ := hA; have q0e : r (.tmp 67) = .slice (some ⟨w.heap.size + 1 + 1 + 1 + 1 + 1, 0, none⟩) 5 5 := q0; have q1e : r (.tmp 68) = .int .i64 1 := q1; exact ⟨rfl, by simp [go_sem, q0e, q1e]⟩) ?_
  refine tab_val (.pointer (some ⟨w.heap.size + 1 + 1 + 1 + 1 + 1, 3, none⟩)) (fun r w1 hr hg hA => by obtain ⟨⟨_, q0⟩, -⟩ := hA; have q0e : r (.tmp 69) = .pointer (some ⟨w.heap.size + 1 + 1 + 1 + 1 + 1, 2, none⟩) := q0; exact ⟨rfl, by simp [go_sem, q0e]⟩) ?_
  refine tab_val (.int .i64 b_y) (fun r w1 hr hg hA => by obtain ⟨⟨_, q0⟩, -⟩ := hA; have q0e : r (.tmp 70) = .pointer (some ⟨w.heap.size + 1 + 1 + 1 + 1 + 1, 3, none⟩) := q0; have hc := And.intro (box5 (G.out.trans (hg1.trans hg))) (cells10 (Grows.block (hg1.trans hg) Hb.out)); exact ⟨rfl, by simp [go_sem, q0e, hc]⟩) ?_
  refine tab_val (.pointer (some ⟨w.heap.size + 1 + 1 + 1 + 1, 1, none⟩)) (fun r w1 hr hg hA => by obtain ⟨q0, -⟩ := hA; have q0e : r (.tmp 9) = .pointer (some ⟨w.heap.size + 1 + 1 + 1 + 1, 0, none⟩) := q0; exact ⟨rfl, by simp [go_sem, q0e]⟩) ?_
  refine tab_val (.int .i64 ty) (fun r w1 hr hg hA => by obtain ⟨⟨_, q0⟩, -⟩ := hA; have q0e : r (.tmp 72) = .pointer (some ⟨w.heap.size + 1 + 1 + 1 + 1, 1, none⟩) := q0; have hc := And.intro (box5 (G.out.trans (hg1.trans hg))) (cells10 (Grows.block (hg1.trans hg) Hb.out)); exact ⟨rfl, by simp [go_sem, q0e, hc]⟩) ?_
  refine tab_val (.int .i64 (b_y + ty)) (fun r w1 hr hg hA => by obtain ⟨⟨_, q0⟩, ⟨_, q1⟩, -⟩ := hA; have q0e : r (.tmp 71) = .int .i64 b_y := q0; have q1e : r (.tmp 73) = .int .i64 ty := q1; exact ⟨rfl, by simp [go_sem, q0e, q1e, IntWalk.i64_in (b_y + ty) (by omega)]⟩) ?_
  refine tab_val (pt (bx + tx) (b_y + ty)) (fun r w1 hr hg hA => by obtain ⟨⟨_, q0⟩, ⟨_, q1⟩, -⟩ := hA; have q0e : r (.tmp 66) = .int .i64 (bx + tx) := q0; have q1e : r (.tmp 74) = .int .i64 (b_y + ty) := q1; exact ⟨rfl, by simp [go_sem, q0e, q1e]⟩) ?_
  refine tab_val (.pointer (some ⟨w.heap.size + 1 + 1 + 1 + 1 + 1, 2, none⟩)) (fun r w1 hr hg hA => by obtain ⟨⟨_, q0⟩, ⟨_, q1⟩, -⟩ := hA; have q0e : r (.tmp 57) = .slice (some ⟨w.heap.size + 1 + 1 + 1 + 1 + 1, 0, none⟩) 5 5 := q0; have q1e : r (.tmp 58) = .int .i64 1 := q1; exact ⟨rfl, by simp [go_sem, q0e, q1e]⟩) ?_
  refine tab_end ?_
  simp only [List.reverse_cons, List.reverse_nil, List.nil_append, List.cons_append, Out, forall_eq, forall_const, Act.put, List.setIfInBounds_toArray, List.set_cons_succ, List.set_cons_zero]
  intro wA hgA
  have hg := hg1.trans hgA
  have hb := Grows.block hg Hb.out
  have hG := G.out.trans hg
  obtain ⟨k0, k1, k2, k3, k4, k5, k6, k7, k8, k9⟩ := cells10 hb
  obtain ⟨f0, f1, f2, f3, f4, f5, f6, f7, f8, f9⟩ := froz10 hb
  have hb2 := set10_1 (x := .int .i64 (bx + tx)) (y := .int .i64 (b_y + ty)) hb
  have hG2 := (hG.st (p := ⟨w.heap.size + 1 + 1 + 1 + 1 + 1, 2, none⟩) (by simp only [World.size_alloc]; omega) (.int .i64 (bx + tx))).st (p := ⟨w.heap.size + 1 + 1 + 1 + 1 + 1, 3, none⟩) (by simp only [World.size_alloc]; omega) (.int .i64 (b_y + ty))
  have G2 := Lib.hid hG2
  have Hb2 := Lib.hid hb2
  clear G Hb hg hb hG hb2 hG2 hw0 hg1 hg1' hgA
  go_wp2
  generalize ((wA.setCell ⟨w.heap.size + 1 + 1 + 1 + 1 + 1, 2, none⟩ (.int .i64 (bx + tx))).setCell ⟨w.heap.size + 1 + 1 + 1 + 1 + 1, 3, none⟩ (.int .i64 (b_y + ty))) = wc at G2 Hb2 ⊢
  have G := G2
  have Hb := Hb2
  clear G2 Hb2 k0 k1 k2 k3 k4 k5 k6 k7 k8 k9 f0 f1 f2 f3 f4 f5 f6 f7 f8 f9
  rw [rounds_succ]

  go_wp2
  refine wp_region_tab 20 (by kernel_rfl) (by kernel_rfl) ?_
  intro w0 hw0 hg1 hg1'
  simp only [List.take_succ_cons, List.take_zero, List.drop_succ_cons, List.drop_zero]
  refine tab_val (.slice (some ⟨w.heap.size + 1 + 1 + 1 + 1 + 1, 0, none⟩) 5 5) (fun r w1 hr hg hA => by obtain ⟨q0, -⟩ := hA; have q0e : r (.tmp 11) = .slice (some ⟨w.heap.size + 1 + 1 + 1 + 1 + 1, 0, none⟩) 5 5 := q0; exact ⟨rfl, by simp [go_sem, q0e]⟩) ?_
  refine tab_val (.int .i64 2) (fun r w1 hr hg hA => by obtain ⟨q0, -⟩ := hA; have q0e : r (.tmp 13) = .int .i64 2 := q0; exact ⟨rfl, by simp [go_sem, q0e]⟩) ?_
  refine tab_val (.slice (some ⟨w.heap.size + 1 + 1 + 1 + 1 + 1, 0, none⟩) 5 5) (fun r w1 hr hg hA => by obtain ⟨q0, -⟩ := hA; have q0e : r (.tmp 11) = .slice (some ⟨w.heap.size + 1 + 1 + 1 + 1 + 1, 0, none⟩) 5 5 := q0; exact ⟨rfl, by simp [go_sem, q0e]⟩) ?_
  refine tab_val (.int .i64 2) (fun r w1 hr hg hA => by obtain ⟨q0, -⟩ := hA; have q0e : r (.tmp 13) = .int .i64 2 := q0; exact ⟨rfl, by simp [go_sem, q0e]⟩) ?_
  refine tab_val (.pointer (some ⟨w.heap.size + 1 + 1 + 1 + 1 + 1, 4, none⟩)) (fun r w1 hr hg hA => by obtain ⟨⟨_, q0⟩, ⟨_, q1⟩, -⟩ := hA; have q0e : r (.tmp 59) = .slice (some ⟨w.heap.size + 1 + 1 + 1 + 1 + 1, 0, none⟩) 5 5 := q0; have q1e : r (.tmp 60) = .int .i64 2 := q1; exact ⟨rfl, by simp [go_sem, q0e, q1e]⟩) ?_
  refine tab_val (.pointer (some ⟨w.heap.size + 1 + 1 + 1 + 1 + 1, 4, none⟩)) (fun r w1 hr hg hA => by obtain ⟨⟨_, q0⟩, -⟩ := hA; have q0e : r (.tmp 61) = .pointer (some ⟨w.heap.size + 1 + 1 + 1 + 1 + 1, 4, none⟩) := q0; exact ⟨rfl, by simp [go_sem, q0e]⟩) ?_
  refine tab_val (.int .i64 cx) (fun r w1 hr hg hA => by obtain ⟨⟨_, q0⟩, -⟩ := hA; have q0e : r (.tmp 62) = .pointer (some ⟨w.heap.size + 1 + 1 + 1 + 1 + 1, 4, none⟩) := q0; have hc := And.intro (box5 (G.out.trans (hg1.trans hg))) (cells10 (Grows.block (hg1.trans hg) Hb.out)); exact ⟨rfl, by simp [go_sem, q0e, hc]⟩) ?_
  refine tab_val (.pointer (some ⟨w.heap.size + 1 + 1 + 1 + 1, 0, none⟩)) (fun r w1 hr hg hA => by obtain ⟨q0, -⟩ := hA; have q0e : r (.tmp 9) = .pointer (some ⟨w.heap.size + 1 + 1 + 1 + 1, 0, none⟩) := q0; exact ⟨rfl, by simp [go_sem, q0e]⟩) ?_
  refine tab_val (.int .i64 tx) (fun r w1 hr hg hA => by obtain ⟨⟨_, q0⟩, -⟩ := hA; have q0e : r (.tmp 64) = .pointer (some ⟨w.heap.size + 1 + 1 + 1 + 1, 0, none⟩) := q0; have hc := And.intro (box5 (G.out.trans (hg1.trans hg))) (cells10 (Grows.block (hg1.trans hg) Hb.out)); exact ⟨rfl, by simp [go_sem, q0e, hc]⟩) ?_
  refine tab_val (.int .i64 (cx + tx)) (fun r w1 hr hg hA => by obtain ⟨⟨_, q0⟩, ⟨_, q1⟩, -⟩ := hA; have q0e : r (.tmp 63) = .int .i64 cx := q0; have q1e : r (.tmp 65) = .int .i64 tx := q1; exact ⟨rfl, by simp [go_sem, q0e, q1e, IntWalk.i64_in (cx + tx) (by omega)]⟩) ?_
  refine tab_val (.slice (some ⟨w.heap.size + 1 + 1 + 1 + 1 + 1, 0, none⟩) 5 5) (fun r w1 hr hg hA => by obtain ⟨q0, -⟩ := hA; have q0e : r (.tmp 11) = .slice (some ⟨w.heap.size + 1 + 1 + 1 + 1 + 1, 0, none⟩) 5 5 := q0; exact ⟨rfl, by simp [go_sem, q0e]⟩) ?_
  refine tab_val (.int .i64 2) (fun r w1 hr hg hA => by obtain ⟨q0, -⟩ := hA; have q0e : r (.tmp 13) = .int .i64 2 := q0; exact ⟨rfl, by simp [go_sem, q0e]⟩) ?_
  refine tab_val (.pointer (some ⟨w.heap.size + 1 + 1 + 1 + 1 + 1, 4, none⟩)) (fun r w1 hr hg hA => by obtain ⟨⟨_, q0⟩, ⟨_, q1⟩, -⟩ := hA; have q0e : r (.tmp 67) = .slice (some ⟨w.heap.size + 1 + 1 + 1 + 1 + 1, 0, none⟩) 5 5 := q0; have q1e : r (.tmp 68) = .int .i64 2 := q1; exact ⟨rfl, by simp [go_sem, q0e, q1e]⟩) ?_
  refine tab_val (.pointer (some ⟨w.heap.size + 1 + 1 + 1 + 1 + 1, 5, none⟩)) (fun r w1 hr hg hA => by obtain ⟨⟨_, q0⟩, -⟩ := hA; have q0e : r (.tmp 69) = .pointer (some ⟨w.heap.size + 1 + 1 + 1 + 1 + 1, 4, none⟩) := q0; exact ⟨rfl, by simp [go_sem, q0e]⟩) ?_
  refine tab_val (.int .i64 cy) (fun r w1 hr hg hA => by obtain ⟨⟨_, q0⟩, -⟩ := hA; have q0e : r (.tmp 70) = .pointer (some ⟨w.heap.size + 1 + 1 + 1 + 1 + 1, 5, none⟩) := q0; have hc := And.intro (box5 (G.out.trans (hg1.trans hg))) (cells10 (Grows.block (hg1.trans hg) Hb.out)); exact ⟨rfl, by simp [go_sem, q0e, hc]⟩) ?_
  refine tab_val (.pointer (some ⟨w.heap.size + 1 + 1 + 1 + 1, 1, none⟩)) (fun r w1 hr hg hA => by obtain ⟨q0, -⟩ := hA; have q0e : r (.tmp 9) = .pointer (some ⟨w.heap.size + 1 + 1 + 1 + 1, 0, none⟩) := q0; exact ⟨rfl, by simp [go_sem, q0e]⟩) ?_
  refine tab_val (.int .i64 ty) (fun r w1 hr hg hA => by obtain ⟨⟨_, q0⟩, -⟩ := hA; have q0e : r (.tmp 72) = .pointer (some ⟨w.heap.size + 1 + 1 + 1 + 1, 1, none⟩) := q0; have hc := And.intro (box5 (G.out.trans (hg1.trans hg))) (cells10 (Grows.block (hg1.trans hg) Hb.out)); exact ⟨rfl, by simp [go_sem, q0e, hc]⟩) ?_
  refine tab_val (.int .i64 (cy + ty)) (fun r w1 hr hg hA => by obtain ⟨⟨_, q0⟩, ⟨_, q1⟩, -⟩ := hA; have q0e : r (.tmp 71) = .int .i64 cy := q0; have q1e : r (.tmp 73) = .int .i64 ty := q1; exact ⟨rfl, by simp [go_sem, q0e, q1e, IntWalk.i64_in (cy + ty) (by omega)]⟩) ?_
  refine tab_val (pt (cx + tx) (cy + ty)) (fun r w1 hr hg hA => by obtain ⟨⟨_, q0⟩, ⟨_, q1⟩, -⟩ := hA; have q0e : r (.tmp 66) = .int .i64 (cx + tx) := q0; have q1e : r (.tmp 74) = .int .i64 (cy + ty) := q1; exact ⟨rfl, by simp [go_sem, q0e, q1e]⟩) ?_
  refine tab_val (.pointer (some ⟨w.heap.size + 1 + 1 + 1 + 1 + 1, 4, none⟩)) (fun r w1 hr hg hA => by obtain ⟨⟨_, q0⟩, ⟨_, q1⟩, -⟩ := hA; have q0e : r (.tmp 57) = .slice (some ⟨w.heap.size + 1 + 1 + 1 + 1 + 1, 0, none⟩) 5 5 := q0; have q1e : r (.tmp 58) = .int .i64 2 := q1; exact ⟨rfl, by simp [go_sem, q0e, q1e]⟩) ?_
  refine tab_end ?_
  simp only [List.reverse_cons, List.reverse_nil, List.nil_append, List.cons_append, Out, forall_eq, forall_const, Act.put, List.setIfInBounds_toArray, List.set_cons_succ, List.set_cons_zero]
  intro wA hgA
  have hg := hg1.trans hgA
  have hb := Grows.block hg Hb.out
  have hG := G.out.trans hg
  obtain ⟨k0, k1, k2, k3, k4, k5, k6, k7, k8, k9⟩ := cells10 hb
  obtain ⟨f0, f1, f2, f3, f4, f5, f6, f7, f8, f9⟩ := froz10 hb
  have hb2 := set10_2 (x := .int .i64 (cx + tx)) (y := .int .i64 (cy + ty)) hb
  have hG2 := (hG.st (p := ⟨w.heap.size + 1 + 1 + 1 + 1 + 1, 4, none⟩) (by simp only [World.size_alloc]; omega) (.int .i64 (cx + tx))).st (p := ⟨w.heap.size + 1 + 1 + 1 + 1 + 1, 5, none⟩) (by simp only [World.size_alloc]; omega) (.int .i64 (cy + ty))
  have G2 := Lib.hid hG2
  have Hb2 := Lib.hid hb2
  clear G Hb hg hb hG hb2 hG2 hw0 hg1 hg1' hgA
  go_wp2
  generalize ((wA.setCell ⟨w.heap.size + 1 + 1 + 1 + 1 + 1, 4, none⟩ (.int .i64 (cx + tx))).setCell ⟨w.heap.size + 1 + 1 + 1 + 1 + 1, 5, none⟩ (.int .i64 (cy + ty))) = wc at G2 Hb2 ⊢
  have G := G2
  have Hb := Hb2
  clear G2 Hb2 k0 k1 k2 k3 k4 k5 k6 k7 k8 k9 f0 f1 f2 f3 f4 f5 f6 f7 f8 f9
  rw [rounds_succ]

  go_wp2
  refine wp_region_tab 20 (by kernel_rfl) (by kernel_rfl) ?_
  intro w0 hw0 hg1 hg1'
  simp only [List.take_succ_cons, List.take_zero, List.drop_succ_cons, List.drop_zero]
  refine tab_val (.slice (some ⟨w.heap.size + 1 + 1 + 1 + 1 + 1, 0, none⟩) 5 5) (fun r w1 hr hg hA => by obtain ⟨q0, -⟩ := hA; have q0e : r (.tmp 11) = .slice (some ⟨w.heap.size + 1 + 1 + 1 + 1 + 1, 0, none⟩) 5 5 := q0; exact ⟨rfl, by simp [go_sem, q0e]⟩) ?_
  refine tab_val (.int .i64 3) (fun r w1 hr hg hA => by obtain ⟨q0, -⟩ := hA; have q0e : r (.tmp 13) = .int .i64 3 := q0; exact ⟨rfl, by simp [go_sem, q0e]⟩) ?_
  refine tab_val (.slice (some ⟨w.heap.size + 1 + 1 + 1 + 1 + 1, 0, none⟩) 5 5) (fun r w1 hr hg hA => by obtain ⟨q0, -⟩ := hA; have q0e : r (.tmp 11) = .slice (some ⟨w.heap.size + 1 + 1 + 1 + 1 + 1, 0, none⟩) 5 5 := q0; exact ⟨rfl, by simp [go_sem, q0e]⟩) ?_
  refine tab_val (.int .i64 3) (fun r w1 hr hg hA => by obtain ⟨q0, -⟩ := hA; have q0e : r (.tmp 13) = .int .i64 3 := q0; exact ⟨rfl, by simp [go_sem, q0e]⟩) ?_
  refine tab_val (.pointer (some ⟨w.heap.size + 1 + 1 + 1 + 1 + 1, 6, none⟩)) (fun r w1 hr hg hA => by obtain ⟨⟨_, q0⟩, ⟨_, q1⟩, -⟩ := hA; have q0e : r (.tmp 59) = .slice (some ⟨w.heap.size + 1 + 1 + 1 + 1 + 1, 0, none⟩) 5 5 := q0; have q1e : r (.tmp 60) = .int .i64 3 := q1; exact ⟨rfl, by simp [go_sem, q0e, q1e]⟩) ?_
  refine tab_val (.pointer (some ⟨w.heap.size + 1 + 1 + 1 + 1 + 1, 6, none⟩)) (fun r w1 hr hg hA => by obtain ⟨⟨_, q0⟩, -⟩ := hA; have q0e : r (.tmp 61) = .pointer (some ⟨w.heap.size + 1 + 1 + 1 + 1 + 1, 6, none⟩) := q0; exact ⟨rfl, by simp [go_sem, q0e]⟩) ?_
  refine tab_val (.int .i64 px) (fun r w1 hr hg hA => by obtain ⟨⟨_, q0⟩, -⟩ := hA; have q0e : r (.tmp 62) = .pointer (some ⟨w.heap.size + 1 + 1 + 1 + 1 + 1, 6, none⟩) := q0; have hc := And.intro (box5 (G.out.trans (hg1.trans hg))) (cells10 (Grows.block (hg1.trans hg) Hb.out)); exact ⟨rfl, by simp [go_sem, q0e, hc]⟩) ?_
  refine tab_val (.pointer (some ⟨w.heap.size + 1 + 1 + 1 + 1, 0, none⟩)) (fun r w1 hr hg hA => by obtain ⟨q0, -⟩ := hA; have q0e : r (.tmp 9) = .pointer (some ⟨w.heap.size + 1 + 1 + 1 + 1, 0, none⟩) := q0; exact ⟨rfl, by simp [go_sem, q0e]⟩) ?_
  refine tab_val (.int .i64 tx) (fun r w1 hr hg hA => by obtain ⟨⟨_, q0⟩, -⟩ := hA; have q0e : r (.tmp 64) = .pointer (some ⟨w.heap.size + 1 + 1 + 1 + 1, 0, none⟩) := q0; have hc := And.intro (box5 (G.out.trans (hg1.trans hg))) (cells10 (Grows.block (hg1.trans hg) Hb.out)); exact ⟨rfl, by simp [go_sem, q0e, hc]⟩) ?_
  refine tab_val (.int .i64 (px + tx)) (fun r w1 hr hg hA => by obtain ⟨⟨_, q0⟩, ⟨_, q1⟩, -⟩ := hA; have q0e : r (.tmp 63) = .int .i64 px := q0; have q1e : r (.tmp 65) = .int .i64 tx := q1; exact ⟨rfl, by simp [go_sem, q0e, q1e, IntWalk.i64_in (px + tx) (by omega)]⟩) ?_
  refine tab_val (.slice (some ⟨w.heap.size + 1 + 1 + 1 + 1 + 1, 0, none⟩) 5 5) (fun r w1 hr hg hA => by obtain ⟨q0, -⟩ := hA; have q0e : r (.tmp 11) = .slice (some ⟨w.heap.size + 1 + 1 + 1 + 1 + 1, 0, none⟩) 5 5 := q0; exact ⟨rfl, by simp [go_sem, q0e]⟩) ?_
  refine tab_val (.int .i64 3) (fun r w1 hr hg hA => by obtain ⟨q0, -⟩ := hA; have q0e : r (.tmp 13) = .int .i64 3 := q0; exact ⟨rfl, by simp [go_sem, q0e]⟩) ?_
  refine tab_val (.pointer (some ⟨w.heap.size + 1 + 1 + 1 + 1 + 1, 6, none⟩)) (fun r w1 hr hg hA => by obtain ⟨⟨_, q0⟩, ⟨_, q1⟩, -⟩ := hA; have q0e : r (.tmp 67) = .slice (some ⟨w.heap.size + 1 + 1 + 1 + 1 + 1, 0, none⟩) 5 5 := q0; have q1e : r (.tmp 68) = .int .i64 3 := q1; exact ⟨rfl, by simp [go_sem, q0e, q1e]⟩) ?_
  refine tab_val (.pointer (some ⟨w.heap.size + 1 + 1 + 1 + 1 + 1, 7, none⟩)) (fun r w1 hr hg hA => by obtain ⟨⟨_, q0⟩, -⟩ := hA; have q0e : r (.tmp 69) = .pointer (some ⟨w.heap.size + 1 + 1 + 1 + 1 + 1, 6, none⟩) := q0; exact ⟨rfl, by simp [go_sem, q0e]⟩) ?_
  refine tab_val (.int .i64 py) (fun r w1 hr hg hA => by obtain ⟨⟨_, q0⟩, -⟩ := hA; have q0e : r (.tmp 70) = .pointer (some ⟨w.heap.size + 1 + 1 + 1 + 1 + 1, 7, none⟩) := q0; have hc := And.intro (box5 (G.out.trans (hg1.trans hg))) (cells10 (Grows.block (hg1.trans hg) Hb.out)); exact ⟨rfl, by simp [go_sem, q0e, hc]⟩) ?_
  refine tab_val (.pointer (some ⟨w.heap.size + 1 + 1 + 1 + 1, 1, none⟩)) (fun r w1 hr hg hA => by obtain ⟨q0, -⟩ := hA; have q0e : r (.tmp 9) = .pointer (some ⟨w.heap.size + 1 + 1 + 1 + 1, 0, none⟩) := q0; exact ⟨rfl, by simp [go_sem, q0e]⟩) ?_
  refine tab_val (.int .i64 ty) (fun r w1 hr hg hA => by obtain ⟨⟨_, q0⟩, -⟩ := hA; have q0e : r (.tmp 72) = .pointer (some ⟨w.heap.size + 1 + 1 + 1 + 1, 1, none⟩) := q0; have hc := And.intro (box5 (G.out.trans (hg1.trans hg))) (cells10 (Grows.block (hg1.trans hg) Hb.out)); exact ⟨rfl, by simp [go_sem, q0e, hc]⟩) ?_
  refine tab_val (.int .i64 (py + ty)) (fun r w1 hr hg hA => by obtain ⟨⟨_, q0⟩, ⟨_, q1⟩, -⟩ := hA; have q0e : r (.tmp 71) = .int .i64 py := q0; have q1e : r (.tmp 73) = .int .i64 ty := q1; exact ⟨rfl, by simp [go_sem, q0e, q1e, IntWalk.i64_in (py + ty) (by omega)]⟩) ?_
  refine tab_val (pt (px + tx) (py + ty)) (fun r w1 hr hg hA => by obtain ⟨⟨_, q0⟩, ⟨_, q1⟩, -⟩ := hA; have q0e : r (.tmp 66) = .int .i64 (px + tx) := q0; have q1e : r (.tmp 74) = .int .i64 (py + ty) := q1; exact ⟨rfl, by simp [go_sem, q0e, q1e]⟩) ?_
  refine tab_val (.pointer (some ⟨w.heap.size + 1 + 1 + 1 + 1 + 1, 6, none⟩)) (fun r w1 hr hg hA => by obtain ⟨⟨_, q0⟩, ⟨_, q1⟩, -⟩ := hA; have q0e : r (.tmp 57) = .slice (some ⟨w.heap.size + 1 + 1 + 1 + 1 + 1, 0, none⟩) 5 5 := q0; have q1e : r (.tmp 58) = .int .i64 3 := q1; exact ⟨rfl, by simp [go_sem, q0e, q1e]⟩) ?_
  refine tab_end ?_
  simp only [List.reverse_cons, List.reverse_nil, List.nil_append, List.cons_append, Out, forall_eq, forall_const, Act.put, List.setIfInBounds_toArray, List.set_cons_succ, List.set_cons_zero]
  intro wA hgA
  have hg := hg1.trans hgA
  have hb := Grows.block hg Hb.out
  have hG := G.out.trans hg
  obtain ⟨k0, k1, k2, k3, k4, k5, k6, k7, k8, k9⟩ := cells10 hb
  obtain ⟨f0, f1, f2, f3, f4, f5, f6, f7, f8, f9⟩ := froz10 hb
  have hb2 := set10_3 (x := .int .i64 (px + tx)) (y := .int .i64 (py + ty)) hb
  have hG2 := (hG.st (p := ⟨w.heap.size + 1 + 1 + 1 + 1 + 1, 6, none⟩) (by simp only [World.size_alloc]; omega) (.int .i64 (px + tx))).st (p := ⟨w.heap.size + 1 + 1 + 1 + 1 + 1, 7, none⟩) (by simp only [World.size_alloc]; omega) (.int .i64 (py + ty))
  have G2 := Lib.hid hG2
  have Hb2 := Lib.hid hb2
  clear G Hb hg hb hG hb2 hG2 hw0 hg1 hg1' hgA
  go_wp2
  generalize ((wA.setCell ⟨w.heap.size + 1 + 1 + 1 + 1 + 1, 6, none⟩ (.int .i64 (px + tx))).setCell ⟨w.heap.size + 1 + 1 + 1 + 1 + 1, 7, none⟩ (.int .i64 (py + ty))) = wc at G2 Hb2 ⊢
  have G := G2
  have Hb := Hb2
  clear G2 Hb2 k0 k1 k2 k3 k4 k5 k6 k7 k8 k9 f0 f1 f2 f3 f4 f5 f6 f7 f8 f9
  rw [rounds_succ]

  go_wp2
  refine wp_region_tab 87 (by kernel_rfl) (by kernel_rfl) ?_
  intro w0 hw0 hg1 hg1'
  simp only [List.append_eq, List.cons_append, List.nil_append, List.take_succ_cons, List.take_zero, List.drop_succ_cons, List.drop_zero]
  refine tab_call (v := .bool true) (fun w1 hg => kn_any w1) (fun r w1 hr hg hA => by exact ⟨rfl, by simp [go_sem, hr.func]⟩) ?_
  refine tab_val (.bool true) (fun r w1 hr hg hA => by obtain ⟨⟨_, q0⟩, -⟩ := hA; have q0e : r (.tmp 77) = .bool true := q0; exact ⟨rfl, by simp [go_sem, q0e]⟩) ?_
  refine tab_val (.slice (some ⟨w.heap.size + 1 + 1 + 1 + 1 + 1, 0, none⟩) 5 5) (fun r w1 hr hg hA => by obtain ⟨q0, ⟨_, q1⟩, -⟩ := hA; have q0e : r (.tmp 11) = .slice (some ⟨w.heap.size + 1 + 1 + 1 + 1 + 1, 0, none⟩) 5 5 := q0; have q1e : r (.tmp 78) = .bool true := q1; exact ⟨⟨_, q1e, rfl⟩, by simp [go_sem, q0e]⟩) ?_
  refine tab_val (.pointer (some ⟨w.heap.size + 1 + 1 + 1 + 1 + 1, 0, none⟩)) (fun r w1 hr hg hA => by obtain ⟨⟨_, q0⟩, ⟨_, q1⟩, -⟩ := hA; have q0e : r (.tmp 79) = .slice (some ⟨w.heap.size + 1 + 1 + 1 + 1 + 1, 0, none⟩) 5 5 := q0; have q1e : r (.tmp 78) = .bool true := q1; exact ⟨⟨_, q1e, rfl⟩, by simp [go_sem, hr.const, q0e]⟩) ?_
  refine tab_val (pt (ax + tx) (ay + ty)) (fun r w1 hr hg hA => by obtain ⟨⟨_, q0⟩, ⟨_, q1⟩, -⟩ := hA; have q0e : r (.tmp 80) = .pointer (some ⟨w.heap.size + 1 + 1 + 1 + 1 + 1, 0, none⟩) := q0; have q1e : r (.tmp 78) = .bool true := q1; have hc := And.intro (box5 (G.out.trans (hg1.trans hg))) (cells10 (Grows.block (hg1.trans hg) Hb.out)); exact ⟨⟨_, q1e, rfl⟩, by simp [go_sem, q0e, hc]⟩) ?_
  refine tab_val (.slice (some ⟨w.heap.size + 1 + 1 + 1 + 1 + 1, 0, none⟩) 5 5) (fun r w1 hr hg hA => by obtain ⟨q0, ⟨_, q1⟩, -⟩ := hA; have q0e : r (.tmp 11) = .slice (some ⟨w.heap.size + 1 + 1 + 1 + 1 + 1, 0, none⟩) 5 5 := q0; have q1e : r (.tmp 78) = .bool true := q1; exact ⟨⟨_, q1e, rfl⟩, by simp [go_sem, q0e]⟩) ?_
  refine tab_val (.pointer (some ⟨w.heap.size + 1 + 1 + 1 + 1 + 1, 2, none⟩)) (fun r w1 hr hg hA => by obtain ⟨⟨_, q0⟩, ⟨_, q1⟩, -⟩ := hA; have q0e : r (.tmp 82) = .slice (some ⟨w.heap.size + 1 + 1 + 1 + 1 + 1, 0, none⟩) 5 5 := q0; have q1e : r (.tmp 78) = .bool true := q1; exact ⟨⟨_, q1e, rfl⟩, by simp [go_sem, hr.const, q0e]⟩) ?_
  refine tab_val (pt (bx + tx) (b_y + ty)) (fun r w1 hr hg hA => by obtain ⟨⟨_, q0⟩, ⟨_, q1⟩, -⟩ := hA; have q0e : r (.tmp 83) = .pointer (some ⟨w.heap.size + 1 + 1 + 1 + 1 + 1, 2, none⟩) := q0; have q1e : r (.tmp 78) = .bool true := q1; have hc := And.intro (box5 (G.out.trans (hg1.trans hg))) (cells10 (Grows.block (hg1.trans hg) Hb.out)); exact ⟨⟨_, q1e, rfl⟩, by simp [go_sem, q0e, hc]⟩) ?_
  refine tab_val (.slice (some ⟨w.heap.size + 1 + 1 + 1 + 1 + 1, 0, none⟩) 5 5) (fun r w1 hr hg hA => by obtain ⟨q0, ⟨_, q1⟩, -⟩ := hA; have q0e : r (.tmp 11) = .slice (some ⟨w.heap.size + 1 + 1 + 1 + 1 + 1, 0, none⟩) 5 5 := q0; have q1e : r (.tmp 78) = .bool true := q1; exact ⟨⟨_, q1e, rfl⟩, by simp [go_sem, q0e]⟩) ?_
  refine tab_val (.pointer (some ⟨w.heap.size + 1 + 1 + 1 + 1 + 1, 4, none⟩)) (fun r w1 hr hg hA => by obtain ⟨⟨_, q0⟩, ⟨_, q1⟩, -⟩ := hA; have q0e : r (.tmp 85) = .slice (some ⟨w.heap.size + 1 + 1 + 1 + 1 + 1, 0, none⟩) 5 5 := q0; have q1e : r (.tmp 78) = .bool true := q1; exact ⟨⟨_, q1e, rfl⟩, by simp [go_sem, hr.const, q0e]⟩) ?_
  refine tab_val (pt (cx + tx) (cy + ty)) (fun r w1 hr hg hA => by obtain ⟨⟨_, q0⟩, ⟨_, q1⟩, -⟩ := hA; have q0e : r (.tmp 86) = .pointer (some ⟨w.heap.size + 1 + 1 + 1 + 1 + 1, 4, none⟩) := q0; have q1e : r (.tmp 78) = .bool true := q1; have hc := And.intro (box5 (G.out.trans (hg1.trans hg))) (cells10 (Grows.block (hg1.trans hg) Hb.out)); exact ⟨⟨_, q1e, rfl⟩, by simp [go_sem, q0e, hc]⟩) ?_
  refine tab_call (v := .int .i64 n) (fun w1 hg => C1.out w1) (fun r w1 hr hg hA => by obtain ⟨⟨_, q0⟩, ⟨_, q1⟩, ⟨_, q2⟩, ⟨_, q3⟩, -⟩ := hA; have q0e : r (.tmp 81) = pt (ax + tx) (ay + ty) := q0; have q1e : r (.tmp 84) = pt (bx + tx) (b_y + ty) := q1; have q2e : r (.tmp 87) = pt (cx + tx) (cy + ty) := q2; have q3e : r (.tmp 78) = .bool true := q3; exact ⟨⟨_, q3e, rfl⟩, by simp [go_sem, hr.func, q0e, q1e, q2e]⟩) ?_
  refine tab_val (pt ax ay) (fun r w1 hr hg hA => by obtain ⟨q0, ⟨_, q1⟩, -⟩ := hA; have q0e : r (.tmp 5) = .pointer (some ⟨w.heap.size, 0, none⟩) := q0; have q1e : r (.tmp 78) = .bool true := q1; have hc := And.intro (box5 (G.out.trans (hg1.trans hg))) (cells10 (Grows.block (hg1.trans hg) Hb.out)); exact ⟨⟨_, q1e, rfl⟩, by simp [go_sem, q0e, hc]⟩) ?_
  refine tab_val (pt bx b_y) (fun r w1 hr hg hA => by obtain ⟨q0, ⟨_, q1⟩, -⟩ := hA; have q0e : r (.tmp 6) = .pointer (some ⟨w.heap.size + 1, 0, none⟩) := q0; have q1e : r (.tmp 78) = .bool true := q1; have hc := And.intro (box5 (G.out.trans (hg1.trans hg))) (cells10 (Grows.block (hg1.trans hg) Hb.out)); exact ⟨⟨_, q1e, rfl⟩, by simp [go_sem, q0e, hc]⟩) ?_
  refine tab_val (pt cx cy) (fun r w1 hr hg hA => by obtain ⟨q0, ⟨_, q1⟩, -⟩ := hA; have q0e : r (.tmp 7) = .pointer (some ⟨w.heap.size + 1 + 1, 0, none⟩) := q0; have q1e : r (.tmp 78) = .bool true := q1; have hc := And.intro (box5 (G.out.trans (hg1.trans hg))) (cells10 (Grows.block (hg1.trans hg) Hb.out)); exact ⟨⟨_, q1e, rfl⟩, by simp [go_sem, q0e, hc]⟩) ?_
  refine tab_call (v := .int .i64 n) (fun w1 hg => C2.out w1) (fun r w1 hr hg hA => by obtain ⟨⟨_, q0⟩, ⟨_, q1⟩, ⟨_, q2⟩, ⟨_, q3⟩, -⟩ := hA; have q0e : r (.tmp 89) = pt ax ay := q0; have q1e : r (.tmp 90) = pt bx b_y := q1; have q2e : r (.tmp 91) = pt cx cy := q2; have q3e : r (.tmp 78) = .bool true := q3; exact ⟨⟨_, q3e, rfl⟩, by simp [go_sem, hr.func, q0e, q1e, q2e]⟩) ?_
  refine tab_val (.bool true) (fun r w1 hr hg hA => by obtain ⟨⟨_, q0⟩, ⟨_, q1⟩, ⟨_, q2⟩, -⟩ := hA; have q0e : r (.tmp 88) = .int .i64 n := q0; have q1e : r (.tmp 92) = .int .i64 n := q1; have q2e : r (.tmp 78) = .bool true := q2; exact ⟨⟨_, q2e, rfl⟩, by simp [go_sem, q0e, q1e]⟩) ?_
  refine tab_val (.bool true) (fun r w1 hr hg hA => by obtain ⟨⟨_, q0⟩, ⟨_, q1⟩, -⟩ := hA; have q0e : r (.tmp 78) = .bool true := q0; have q1e : r (.tmp 93) = .bool true := q1; exact ⟨rfl, by simp [go_sem, q0e, q1e]⟩) ?_
  refine tab_val (.bool true) (fun r w1 hr hg hA => by obtain ⟨⟨_, q0⟩, -⟩ := hA; have q0e : r (.tmp 94) = .bool true := q0; exact ⟨rfl, by simp [go_sem, q0e]⟩) ?_
  refine tab_val (.slice (some ⟨w.heap.size + 1 + 1 + 1 + 1 + 1, 0, none⟩) 5 5) (fun r w1 hr hg hA => by obtain ⟨q0, ⟨_, q1⟩, -⟩ := hA; have q0e : r (.tmp 11) = .slice (some ⟨w.heap.size + 1 + 1 + 1 + 1 + 1, 0, none⟩) 5 5 := q0; have q1e : r (.tmp 95) = .bool true := q1; exact ⟨⟨_, q1e, rfl⟩, by simp [go_sem, q0e]⟩) ?_
  refine tab_val (.pointer (some ⟨w.heap.size + 1 + 1 + 1 + 1 + 1, 0, none⟩)) (fun r w1 hr hg hA => by obtain ⟨⟨_, q0⟩, ⟨_, q1⟩, -⟩ := hA; have q0e : r (.tmp 96) = .slice (some ⟨w.heap.size + 1 + 1 + 1 + 1 + 1, 0, none⟩) 5 5 := q0; have q1e : r (.tmp 95) = .bool true := q1; exact ⟨⟨_, q1e, rfl⟩, by simp [go_sem, hr.const, q0e]⟩) ?_
  refine tab_val (pt (ax + tx) (ay + ty)) (fun r w1 hr hg hA => by obtain ⟨⟨_, q0⟩, ⟨_, q1⟩, -⟩ := hA; have q0e : r (.tmp 97) = .pointer (some ⟨w.heap.size + 1 + 1 + 1 + 1 + 1, 0, none⟩) := q0; have q1e : r (.tmp 95) = .bool true := q1; have hc := And.intro (box5 (G.out.trans (hg1.trans hg))) (cells10 (Grows.block (hg1.trans hg) Hb.out)); exact ⟨⟨_, q1e, rfl⟩, by simp [go_sem, q0e, hc]⟩) ?_
  refine tab_val (.slice (some ⟨w.heap.size + 1 + 1 + 1 + 1 + 1, 0, none⟩) 5 5) (fun r w1 hr hg hA => by obtain ⟨q0, ⟨_, q1⟩, -⟩ := hA; have q0e : r (.tmp 11) = .slice (some ⟨w.heap.size + 1 + 1 + 1 + 1 + 1, 0, none⟩) 5 5 := q0; have q1e : r (.tmp 95) = .bool true := q1; exact ⟨⟨_, q1e, rfl⟩, by simp [go_sem, q0e]⟩) ?_
  refine tab_val (.pointer (some ⟨w.heap.size + 1 + 1 + 1 + 1 + 1, 2, none⟩)) (fun r w1 hr hg hA => by obtain ⟨⟨_, q0⟩, ⟨_, q1⟩, -⟩ := hA; have q0e : r (.tmp 99) = .slice (some ⟨w.heap.size + 1 + 1 + 1 + 1 + 1, 0, none⟩) 5 5 := q0; have q1e : r (.tmp 95) = .bool true := q1; exact ⟨⟨_, q1e, rfl⟩, by simp [go_sem, hr.const, q0e]⟩) ?_
  refine tab_val (pt (bx + tx) (b_y + ty)) (fun r w1 hr hg hA => by obtain ⟨⟨_, q0⟩, ⟨_, q1⟩, -⟩ := hA; have q0e : r (.tmp 100) = .pointer (some ⟨w.heap.size + 1 + 1 + 1 + 1 + 1, 2, none⟩) := q0; have q1e : r (.tmp 95) = .bool true := q1; have hc := And.intro (box5 (G.out.trans (hg1.trans hg))) (cells10 (Grows.block (hg1.trans hg) Hb.out)); exact ⟨⟨_, q1e, rfl⟩, by simp [go_sem, q0e, hc]⟩) ?_
  refine tab_val (.slice (some ⟨w.heap.size + 1 + 1 + 1 + 1 + 1, 0, none⟩) 5 5) (fun r w1 hr hg hA => by obtain ⟨q0, ⟨_, q1⟩, -⟩ := hA; have q0e : r (.tmp 11) = .slice (some ⟨w.heap.size + 1 + 1 + 1 + 1 + 1, 0, none⟩) 5 5 := q0; have q1e : r (.tmp 95) = .bool true := q1; exact ⟨⟨_, q1e, rfl⟩, by simp [go_sem, q0e]⟩) ?_
  refine tab_val (.pointer (some ⟨w.heap.size + 1 + 1 + 1 + 1 + 1, 6, none⟩)) (fun r w1 hr hg hA => by obtain ⟨⟨_, q0⟩, ⟨_, q1⟩, -⟩ := hA; have q0e : r (.tmp 102) = .slice (some ⟨w.heap.size + 1 + 1 + 1 + 1 + 1, 0, none⟩) 5 5 := q0; have q1e : r (.tmp 95) = .bool true := q1; exact ⟨⟨_, q1e, rfl⟩, by simp [go_sem, hr.const, q0e]⟩) ?_
  refine tab_val (pt (px + tx) (py + ty)) (fun r w1 hr hg hA => by obtain ⟨⟨_, q0⟩, ⟨_, q1⟩, -⟩ := hA; have q0e : r (.tmp 103) = .pointer (some ⟨w.heap.size + 1 + 1 + 1 + 1 + 1, 6, none⟩) := q0; have q1e : r (.tmp 95) = .bool true := q1; have hc := And.intro (box5 (G.out.trans (hg1.trans hg))) (cells10 (Grows.block (hg1.trans hg) Hb.out)); exact ⟨⟨_, q1e, rfl⟩, by simp [go_sem, q0e, hc]⟩) ?_
  refine tab_call (v := .int .i64 m) (fun w1 hg => T1.out w1) (fun r w1 hr hg hA => by obtain ⟨⟨_, q0⟩, ⟨_, q1⟩, ⟨_, q2⟩, ⟨_, q3⟩, -⟩ := hA; have q0e : r (.tmp 98) = pt (ax + tx) (ay + ty) := q0; have q1e : r (.tmp 101) = pt (bx + tx) (b_y + ty) := q1; have q2e : r (.tmp 104) = pt (px + tx) (py + ty) := q2; have q3e : r (.tmp 95) = .bool true := q3; exact ⟨⟨_, q3e, rfl⟩, by simp [go_sem, hr.func, q0e, q1e, q2e]⟩) ?_
  refine tab_val (pt ax ay) (fun r w1 hr hg hA => by obtain ⟨q0, ⟨_, q1⟩, -⟩ := hA; have q0e : r (.tmp 5) = .pointer (some ⟨w.heap.size, 0, none⟩) := q0; have q1e : r (.tmp 95) = .bool true := q1; have hc := And.intro (box5 (G.out.trans (hg1.trans hg))) (cells10 (Grows.block (hg1.trans hg) Hb.out)); exact ⟨⟨_, q1e, rfl⟩, by simp [go_sem, q0e, hc]⟩) ?_
  refine tab_val (pt bx b_y) (fun r w1 hr hg hA => by obtain ⟨q0, ⟨_, q1⟩, -⟩ := hA; have q0e : r (.tmp 6) = .pointer (some ⟨w.heap.size + 1, 0, none⟩) := q0; have q1e : r (.tmp 95) = .bool true := q1; have hc := And.intro (box5 (G.out.trans (hg1.trans hg))) (cells10 (Grows.block (hg1.trans hg) Hb.out)); exact ⟨⟨_, q1e, rfl⟩, by simp [go_sem, q0e, hc]⟩) ?_
  refine tab_val (pt px py) (fun r w1 hr hg hA => by obtain ⟨q0, ⟨_, q1⟩, -⟩ := hA; have q0e : r (.tmp 8) = .pointer (some ⟨w.heap.size + 1 + 1 + 1, 0, none⟩) := q0; have q1e : r (.tmp 95) = .bool true := q1; have hc := And.intro (box5 (G.out.trans (hg1.trans hg))) (cells10 (Grows.block (hg1.trans hg) Hb.out)); exact ⟨⟨_, q1e, rfl⟩, by simp [go_sem, q0e, hc]⟩) ?_
  refine tab_call (v := .int .i64 m) (fun w1 hg => T2.out w1) (fun r w1 hr hg hA => by obtain ⟨⟨_, q0⟩, ⟨_, q1⟩, ⟨_, q2⟩, ⟨_, q3⟩, -⟩ := hA; have q0e : r (.tmp 106) = pt ax ay := q0; have q1e : r (.tmp 107) = pt bx b_y := q1; have q2e : r (.tmp 108) = pt px py := q2; have q3e : r (.tmp 95) = .bool true := q3; exact ⟨⟨_, q3e, rfl⟩, by simp [go_sem, hr.func, q0e, q1e, q2e]⟩) ?_
  refine tab_val (.bool true) (fun r w1 hr hg hA => by obtain ⟨⟨_, q0⟩, ⟨_, q1⟩, ⟨_, q2⟩, -⟩ := hA; have q0e : r (.tmp 105) = .int .i64 m := q0; have q1e : r (.tmp 109) = .int .i64 m := q1; have q2e : r (.tmp 95) = .bool true := q2; exact ⟨⟨_, q2e, rfl⟩, by simp [go_sem, q0e, q1e]⟩) ?_
  refine tab_val (.bool true) (fun r w1 hr hg hA => by obtain ⟨⟨_, q0⟩, ⟨_, q1⟩, -⟩ := hA; have q0e : r (.tmp 95) = .bool true := q0; have q1e : r (.tmp 110) = .bool true := q1; exact ⟨rfl, by simp [go_sem, q0e, q1e]⟩) ?_
  refine tab_val (.bool true) (fun r w1 hr hg hA => by obtain ⟨⟨_, q0⟩, -⟩ := hA; have q0e : r (.tmp 111) = .bool true := q0; exact ⟨rfl, by simp [go_sem, q0e]⟩) ?_
  refine tab_val (.slice (some ⟨w.heap.size + 1 + 1 + 1 + 1 + 1, 0, none⟩) 5 5) (fun r w1 hr hg hA => by obtain ⟨q0, ⟨_, q1⟩, -⟩ := hA; have q0e : r (.tmp 11) = .slice (some ⟨w.heap.size + 1 + 1 + 1 + 1 + 1, 0, none⟩) 5 5 := q0; have q1e : r (.tmp 112) = .bool true := q1; exact ⟨⟨_, q1e, rfl⟩, by simp [go_sem, q0e]⟩) ?_
  refine tab_val (.pointer (some ⟨w.heap.size + 1 + 1 + 1 + 1 + 1, 0, none⟩)) (fun r w1 hr hg hA => by obtain ⟨⟨_, q0⟩, ⟨_, q1⟩, -⟩ := hA; have q0e : r (.tmp 113) = .slice (some ⟨w.heap.size + 1 + 1 + 1 + 1 + 1, 0, none⟩) 5 5 := q0; have q1e : r (.tmp 112) = .bool true := q1; exact ⟨⟨_, q1e, rfl⟩, by simp [go_sem, hr.const, q0e]⟩) ?_
  refine tab_val (pt (ax + tx) (ay + ty)) (fun r w1 hr hg hA => by obtain ⟨⟨_, q0⟩, ⟨_, q1⟩, -⟩ := hA; have q0e : r (.tmp 114) = .pointer (some ⟨w.heap.size + 1 + 1 + 1 + 1 + 1, 0, none⟩) := q0; have q1e : r (.tmp 112) = .bool true := q1; have hc := And.intro (box5 (G.out.trans (hg1.trans hg))) (cells10 (Grows.block (hg1.trans hg) Hb.out)); exact ⟨⟨_, q1e, rfl⟩, by simp [go_sem, q0e, hc]⟩) ?_
  refine tab_val (.slice (some ⟨w.heap.size + 1 + 1 + 1 + 1 + 1, 0, none⟩) 5 5) (fun r w1 hr hg hA => by obtain ⟨q0, ⟨_, q1⟩, -⟩ := hA; have q0e : r (.tmp 11) = .slice (some ⟨w.heap.size + 1 + 1 + 1 + 1 + 1, 0, none⟩) 5 5 := q0; have q1e : r (.tmp 112) = .bool true := q1; exact ⟨⟨_, q1e, rfl⟩, by simp [go_sem, q0e]⟩) ?_
  refine tab_val (.pointer (some ⟨w.heap.size + 1 + 1 + 1 + 1 + 1, 2, none⟩)) (fun r w1 hr hg hA => by obtain ⟨⟨_, q0⟩, ⟨_, q1⟩, -⟩ := hA; have q0e : r (.tmp 116) = .slice (some ⟨w.heap.size + 1 + 1 + 1 + 1 + 1, 0, none⟩) 5 5 := q0; have q1e : r (.tmp 112) = .bool true := q1; exact ⟨⟨_, q1e, rfl⟩, by simp [go_sem, hr.const, q0e]⟩) ?_
  refine tab_val (pt (bx + tx) (b_y + ty)) (fun r w1 hr hg hA => by obtain ⟨⟨_, q0⟩, ⟨_, q1⟩, -⟩ := hA; have q0e : r (.tmp 117) = .pointer (some ⟨w.heap.size + 1 + 1 + 1 + 1 + 1, 2, none⟩) := q0; have q1e : r (.tmp 112) = .bool true := q1; have hc := And.intro (box5 (G.out.trans (hg1.trans hg))) (cells10 (Grows.block (hg1.trans hg) Hb.out)); exact ⟨⟨_, q1e, rfl⟩, by simp [go_sem, q0e, hc]⟩) ?_
  refine tab_val (.slice (some ⟨w.heap.size + 1 + 1 + 1 + 1 + 1, 0, none⟩) 5 5) (fun r w1 hr hg hA => by obtain ⟨q0, ⟨_, q1⟩, -⟩ := hA; have q0e : r (.tmp 11) = .slice (some ⟨w.heap.size + 1 + 1 + 1 + 1 + 1, 0, none⟩) 5 5 := q0; have q1e : r (.tmp 112) = .bool true := q1; exact ⟨⟨_, q1e, rfl⟩, by simp [go_sem, q0e]⟩) ?_
  refine tab_val (.pointer (some ⟨w.heap.size + 1 + 1 + 1 + 1 + 1, 6, none⟩)) (fun r w1 hr hg hA => by obtain ⟨⟨_, q0⟩, ⟨_, q1⟩, -⟩ := hA; have q0e : r (.tmp 119) = .slice (some ⟨w.heap.size + 1 + 1 + 1 + 1 + 1, 0, none⟩) 5 5 := q0; have q1e : r (.tmp 112) = .bool true := q1; exact ⟨⟨_, q1e, rfl⟩, by simp [go_sem, hr.const, q0e]⟩) ?_
  refine tab_val (pt (px + tx) (py + ty)) (fun r w1 hr hg hA => by obtain ⟨⟨_, q0⟩, ⟨_, q1⟩, -⟩ := hA; have q0e : r (.tmp 120) = .pointer (some ⟨w.heap.size + 1 + 1 + 1 + 1 + 1, 6, none⟩) := q0; have q1e : r (.tmp 112) = .bool true := q1; have hc := And.intro (box5 (G.out.trans (hg1.trans hg))) (cells10 (Grows.block (hg1.trans hg) Hb.out)); exact ⟨⟨_, q1e, rfl⟩, by simp [go_sem, q0e, hc]⟩) ?_
  refine tab_call (v := .bool o) (fun w1 hg => O1.out w1) (fun r w1 hr hg hA => by obtain ⟨⟨_, q0⟩, ⟨_, q1⟩, ⟨_, q2⟩, ⟨_, q3⟩, -⟩ := hA; have q0e : r (.tmp 115) = pt (ax + tx) (ay + ty) := q0; have q1e : r (.tmp 118) = pt (bx + tx) (b_y + ty) := q1; have q2e : r (.tmp 121) = pt (px + tx) (py + ty) := q2; have q3e : r (.tmp 112) = .bool true := q3; exact ⟨⟨_, q3e, rfl⟩, by simp [go_sem, hr.func, q0e, q1e, q2e]⟩) ?_
  refine tab_val (pt ax ay) (fun r w1 hr hg hA => by obtain ⟨q0, ⟨_, q1⟩, -⟩ := hA; have q0e : r (.tmp 5) = .pointer (some ⟨w.heap.size, 0, none⟩) := q0; have q1e : r (.tmp 112) = .bool true := q1; have hc := And.intro (box5 (G.out.trans (hg1.trans hg))) (cells10 (Grows.block (hg1.trans hg) Hb.out)); exact ⟨⟨_, q1e, rfl⟩, by simp [go_sem, q0e, hc]⟩) ?_
  refine tab_val (pt bx b_y) (fun r w1 hr hg hA => by obtain ⟨q0, ⟨_, q1⟩, -⟩ := hA; have q0e : r (.tmp 6) = .pointer (some ⟨w.heap.size + 1, 0, none⟩) := q0; have q1e : r (.tmp 112) = .bool true := q1; have hc := And.intro (box5 (G.out.trans (hg1.trans hg))) (cells10 (Grows.block (hg1.trans hg) Hb.out)); exact ⟨⟨_, q1e, rfl⟩, by simp [go_sem, q0e, hc]⟩) ?_
  refine tab_val (pt px py) (fun r w1 hr hg hA => by obtain ⟨q0, ⟨_, q1⟩, -⟩ := hA; have q0e : r (.tmp 8) = .pointer (some ⟨w.heap.size + 1 + 1 + 1, 0, none⟩) := q0; have q1e : r (.tmp 112) = .bool true := q1; have hc := And.intro (box5 (G.out.trans (hg1.trans hg))) (cells10 (Grows.block (hg1.trans hg) Hb.out)); exact ⟨⟨_, q1e, rfl⟩, by simp [go_sem, q0e, hc]⟩) ?_
  refine tab_call (v := .bool o) (fun w1 hg => O2.out w1) (fun r w1 hr hg hA => by obtain ⟨⟨_, q0⟩, ⟨_, q1⟩, ⟨_, q2⟩, ⟨_, q3⟩, -⟩ := hA; have q0e : r (.tmp 123) = pt ax ay := q0; have q1e : r (.tmp 124) = pt bx b_y := q1; have q2e : r (.tmp 125) = pt px py := q2; have q3e : r (.tmp 112) = .bool true := q3; exact ⟨⟨_, q3e, rfl⟩, by simp [go_sem, hr.func, q0e, q1e, q2e]⟩) ?_
  refine tab_val (.bool true) (fun r w1 hr hg hA => by obtain ⟨⟨_, q0⟩, ⟨_, q1⟩, ⟨_, q2⟩, -⟩ := hA; have q0e : r (.tmp 122) = .bool o := q0; have q1e : r (.tmp 126) = .bool o := q1; have q2e : r (.tmp 112) = .bool true := q2; exact ⟨⟨_, q2e, rfl⟩, by simp [go_sem, q0e, q1e]⟩) ?_
  refine tab_val (.bool true) (fun r w1 hr hg hA => by obtain ⟨⟨_, q0⟩, ⟨_, q1⟩, -⟩ := hA; have q0e : r (.tmp 112) = .bool true := q0; have q1e : r (.tmp 127) = .bool true := q1; exact ⟨rfl, by simp [go_sem, q0e, q1e]⟩) ?_
  refine tab_val (.bool true) (fun r w1 hr hg hA => by obtain ⟨⟨_, q0⟩, -⟩ := hA; have q0e : r (.tmp 128) = .bool true := q0; exact ⟨rfl, by simp [go_sem, q0e]⟩) ?_
  refine tab_val (.slice (some ⟨w.heap.size + 1 + 1 + 1 + 1 + 1, 0, none⟩) 5 5) (fun r w1 hr hg hA => by obtain ⟨q0, ⟨_, q1⟩, -⟩ := hA; have q0e : r (.tmp 11) = .slice (some ⟨w.heap.size + 1 + 1 + 1 + 1 + 1, 0, none⟩) 5 5 := q0; have q1e : r (.tmp 129) = .bool true := q1; exact ⟨⟨_, q1e, rfl⟩, by simp [go_sem, q0e]⟩) ?_
  refine tab_val (.pointer (some ⟨w.heap.size + 1 + 1 + 1 + 1 + 1, 0, none⟩)) (fun r w1 hr hg hA => by obtain ⟨⟨_, q0⟩, ⟨_, q1⟩, -⟩ := hA; have q0e : r (.tmp 130) = .slice (some ⟨w.heap.size + 1 + 1 + 1 + 1 + 1, 0, none⟩) 5 5 := q0; have q1e : r (.tmp 129) = .bool true := q1; exact ⟨⟨_, q1e, rfl⟩, by simp [go_sem, hr.const, q0e]⟩) ?_
  refine tab_val (pt (ax + tx) (ay + ty)) (fun r w1 hr hg hA => by obtain ⟨⟨_, q0⟩, ⟨_, q1⟩, -⟩ := hA; have q0e : r (.tmp 131) = .pointer (some ⟨w.heap.size + 1 + 1 + 1 + 1 + 1, 0, none⟩) := q0; have q1e : r (.tmp 129) = .bool true := q1; have hc := And.intro (box5 (G.out.trans (hg1.trans hg))) (cells10 (Grows.block (hg1.trans hg) Hb.out)); exact ⟨⟨_, q1e, rfl⟩, by simp [go_sem, q0e, hc]⟩) ?_
  refine tab_val (.slice (some ⟨w.heap.size + 1 + 1 + 1 + 1 + 1, 0, none⟩) 5 5) (fun r w1 hr hg hA => by obtain ⟨q0, ⟨_, q1⟩, -⟩ := hA; have q0e : r (.tmp 11) = .slice (some ⟨w.heap.size + 1 + 1 + 1 + 1 + 1, 0, none⟩) 5 5 := q0; have q1e : r (.tmp 129) = .bool true := q1; exact ⟨⟨_, q1e, rfl⟩, by simp [go_sem, q0e]⟩) ?_
  refine tab_val (.pointer (some ⟨w.heap.size + 1 + 1 + 1 + 1 + 1, 2, none⟩)) (fun r w1 hr hg hA => by obtain ⟨⟨_, q0⟩, ⟨_, q1⟩, -⟩ := hA; have q0e : r (.tmp 133) = .slice (some ⟨w.heap.size + 1 + 1 + 1 + 1 + 1, 0, none⟩) 5 5 := q0; have q1e : r (.tmp 129) = .bool true := q1; exact ⟨⟨_, q1e, rfl⟩, by simp [go_sem, hr.const, q0e]⟩) ?_
  refine tab_val (pt (bx + tx) (b_y + ty)) (fun r w1 hr hg hA => by obtain ⟨⟨_, q0⟩, ⟨_, q1⟩, -⟩ := hA; have q0e : r (.tmp 134) = .pointer (some ⟨w.heap.size + 1 + 1 + 1 + 1 + 1, 2, none⟩) := q0; have q1e : r (.tmp 129) = .bool true := q1; have hc := And.intro (box5 (G.out.trans (hg1.trans hg))) (cells10 (Grows.block (hg1.trans hg) Hb.out)); exact ⟨⟨_, q1e, rfl⟩, by simp [go_sem, q0e, hc]⟩) ?_
  refine tab_val (.slice (some ⟨w.heap.size + 1 + 1 + 1 + 1 + 1, 0, none⟩) 5 5) (fun r w1 hr hg hA => by obtain ⟨q0, ⟨_, q1⟩, -⟩ := hA; have q0e : r (.tmp 11) = .slice (some ⟨w.heap.size + 1 + 1 + 1 + 1 + 1, 0, none⟩) 5 5 := q0; have q1e : r (.tmp 129) = .bool true := q1; exact ⟨⟨_, q1e, rfl⟩, by simp [go_sem, q0e]⟩) ?_
  refine tab_val (.pointer (some ⟨w.heap.size + 1 + 1 + 1 + 1 + 1, 4, none⟩)) (fun r w1 hr hg hA => by obtain ⟨⟨_, q0⟩, ⟨_, q1⟩, -⟩ := hA; have q0e : r (.tmp 136) = .slice (some ⟨w.heap.size + 1 + 1 + 1 + 1 + 1, 0, none⟩) 5 5 := q0; have q1e : r (.tmp 129) = .bool true := q1; exact ⟨⟨_, q1e, rfl⟩, by simp [go_sem, hr.const, q0e]⟩) ?_
  refine tab_val (pt (cx + tx) (cy + ty)) (fun r w1 hr hg hA => by obtain ⟨⟨_, q0⟩, ⟨_, q1⟩, -⟩ := hA; have q0e : r (.tmp 137) = .pointer (some ⟨w.heap.size + 1 + 1 + 1 + 1 + 1, 4, none⟩) := q0; have q1e : r (.tmp 129) = .bool true := q1; have hc := And.intro (box5 (G.out.trans (hg1.trans hg))) (cells10 (Grows.block (hg1.trans hg) Hb.out)); exact ⟨⟨_, q1e, rfl⟩, by simp [go_sem, q0e, hc]⟩) ?_
  refine tab_val (.slice (some ⟨w.heap.size + 1 + 1 + 1 + 1 + 1, 0, none⟩) 5 5) (fun r w1 hr hg hA => by obtain ⟨q0, ⟨_, q1⟩, -⟩ := hA; have q0e : r (.tmp 11) = .slice (some ⟨w.heap.size + 1 + 1 + 1 + 1 + 1, 0, none⟩) 5 5 := q0; have q1e : r (.tmp 129) = .bool true := q1; exact ⟨⟨_, q1e, rfl⟩, by simp [go_sem, q0e]⟩) ?_
  refine tab_val (.pointer (some ⟨w.heap.size + 1 + 1 + 1 + 1 + 1, 6, none⟩)) (fun r w1 hr hg hA => by obtain ⟨⟨_, q0⟩, ⟨_, q1⟩, -⟩ := hA; have q0e : r (.tmp 139) = .slice (some ⟨w.heap.size + 1 + 1 + 1 + 1 + 1, 0, none⟩) 5 5 := q0; have q1e : r (.tmp 129) = .bool true := q1; exact ⟨⟨_, q1e, rfl⟩, by simp [go_sem, hr.const, q0e]⟩) ?_
  refine tab_val (pt (px + tx) (py + ty)) (fun r w1 hr hg hA => by obtain ⟨⟨_, q0⟩, ⟨_, q1⟩, -⟩ := hA; have q0e : r (.tmp 140) = .pointer (some ⟨w.heap.size + 1 + 1 + 1 + 1 + 1, 6, none⟩) := q0; have q1e : r (.tmp 129) = .bool true := q1; have hc := And.intro (box5 (G.out.trans (hg1.trans hg))) (cells10 (Grows.block (hg1.trans hg) Hb.out)); exact ⟨⟨_, q1e, rfl⟩, by simp [go_sem, q0e, hc]⟩) ?_
  refine tab_call (v := .bool i) (fun w1 hg => I1.out w1) (fun r w1 hr hg hA => by obtain ⟨⟨_, q0⟩, ⟨_, q1⟩, ⟨_, q2⟩, ⟨_, q3⟩, ⟨_, q4⟩, -⟩ := hA; have q0e : r (.tmp 132) = pt (ax + tx) (ay + ty) := q0; have q1e : r (.tmp 135) = pt (bx + tx) (b_y + ty) := q1; have q2e : r (.tmp 138) = pt (cx + tx) (cy + ty) := q2; have q3e : r (.tmp 141) = pt (px + tx) (py + ty) := q3; have q4e : r (.tmp 129) = .bool true := q4; exact ⟨⟨_, q4e, rfl⟩, by simp [go_sem, hr.func, q0e, q1e, q2e, q3e]⟩) ?_
  refine tab_val (pt ax ay) (fun r w1 hr hg hA => by obtain ⟨q0, ⟨_, q1⟩, -⟩ := hA; have q0e : r (.tmp 5) = .pointer (some ⟨w.heap.size, 0, none⟩) := q0; have q1e : r (.tmp 129) = .bool true := q1; have hc := And.intro (box5 (G.out.trans (hg1.trans hg))) (cells10 (Grows.block (hg1.trans hg) Hb.out)); exact ⟨⟨_, q1e, rfl⟩, by simp [go_sem, q0e, hc]⟩) ?_
  refine tab_val (pt bx b_y) (fun r w1 hr hg hA => by obtain ⟨q0, ⟨_, q1⟩, -⟩ := hA; have q0e : r (.tmp 6) = .pointer (some ⟨w.heap.size + 1, 0, none⟩) := q0; have q1e : r (.tmp 129) = .bool true := q1; have hc := And.intro (box5 (G.out.trans (hg1.trans hg))) (cells10 (Grows.block (hg1.trans hg) Hb.out)); exact ⟨⟨_, q1e, rfl⟩, by simp [go_sem, q0e, hc]⟩) ?_
  refine tab_val (pt cx cy) (fun r w1 hr hg hA => by obtain ⟨q0, ⟨_, q1⟩, -⟩ := hA; have q0e : r (.tmp 7) = .pointer (some ⟨w.heap.size + 1 + 1, 0, none⟩) := q0; have q1e : r (.tmp 129) = .bool true := q1; have hc := And.intro (box5 (G.out.trans (hg1.trans hg))) (cells10 (Grows.block (hg1.trans hg) Hb.out)); exact ⟨⟨_, q1e, rfl⟩, by simp [go_sem, q0e, hc]⟩) ?_
  refine tab_val (pt px py) (fun r w1 hr hg hA => by obtain ⟨q0, ⟨_, q1⟩, -⟩ := hA; have q0e : r (.tmp 8) = .pointer (some ⟨w.heap.size + 1 + 1 + 1, 0, none⟩) := q0; have q1e : r (.tmp 129) = .bool true := q1; have hc := And.intro (box5 (G.out.trans (hg1.trans hg))) (cells10 (Grows.block (hg1.trans hg) Hb.out)); exact ⟨⟨_, q1e, rfl⟩, by simp [go_sem, q0e, hc]⟩) ?_
  refine tab_call (v := .bool i) (fun w1 hg => I2.out w1) (fun r w1 hr hg hA => by obtain ⟨⟨_, q0⟩, ⟨_, q1⟩, ⟨_, q2⟩, ⟨_, q3⟩, ⟨_, q4⟩, -⟩ := hA; have q0e : r (.tmp 143) = pt ax ay := q0; have q1e : r (.tmp 144) = pt bx b_y := q1; have q2e : r (.tmp 145) = pt cx cy := q2; have q3e : r (.tmp 146) = pt px py := q3; have q4e : r (.tmp 129) = .bool true := q4; exact ⟨⟨_, q4e, rfl⟩, by simp [go_sem, hr.func, q0e, q1e, q2e, q3e]⟩) ?_
  refine tab_val (.bool true) (fun r w1 hr hg hA => by obtain ⟨⟨_, q0⟩, ⟨_, q1⟩, ⟨_, q2⟩, -⟩ := hA; have q0e : r (.tmp 142) = .bool i := q0; have q1e : r (.tmp 147) = .bool i := q1; have q2e : r (.tmp 129) = .bool true := q2; exact ⟨⟨_, q2e, rfl⟩, by simp [go_sem, q0e, q1e]⟩) ?_
  refine tab_val (.bool true) (fun r w1 hr hg hA => by obtain ⟨⟨_, q0⟩, ⟨_, q1⟩, -⟩ := hA; have q0e : r (.tmp 129) = .bool true := q0; have q1e : r (.tmp 148) = .bool true := q1; exact ⟨rfl, by simp [go_sem, q0e, q1e]⟩) ?_
  refine tab_val (.bool true) (fun r w1 hr hg hA => by obtain ⟨⟨_, q0⟩, -⟩ := hA; have q0e : r (.tmp 149) = .bool true := q0; exact ⟨rfl, by simp [go_sem, q0e]⟩) ?_
  refine tab_val (.slice (some ⟨w.heap.size + 1 + 1 + 1 + 1 + 1, 0, none⟩) 5 5) (fun r w1 hr hg hA => by obtain ⟨q0, ⟨_, q1⟩, -⟩ := hA; have q0e : r (.tmp 11) = .slice (some ⟨w.heap.size + 1 + 1 + 1 + 1 + 1, 0, none⟩) 5 5 := q0; have q1e : r (.tmp 150) = .bool true := q1; exact ⟨⟨_, q1e, rfl⟩, by simp [go_sem, q0e]⟩) ?_
  refine tab_val (.pointer (some ⟨w.heap.size + 1 + 1 + 1 + 1 + 1, 0, none⟩)) (fun r w1 hr hg hA => by obtain ⟨⟨_, q0⟩, ⟨_, q1⟩, -⟩ := hA; have q0e : r (.tmp 151) = .slice (some ⟨w.heap.size + 1 + 1 + 1 + 1 + 1, 0, none⟩) 5 5 := q0; have q1e : r (.tmp 150) = .bool true := q1; exact ⟨⟨_, q1e, rfl⟩, by simp [go_sem, hr.const, q0e]⟩) ?_
  refine tab_val (pt (ax + tx) (ay + ty)) (fun r w1 hr hg hA => by obtain ⟨⟨_, q0⟩, ⟨_, q1⟩, -⟩ := hA; have q0e : r (.tmp 152) = .pointer (some ⟨w.heap.size + 1 + 1 + 1 + 1 + 1, 0, none⟩) := q0; have q1e : r (.tmp 150) = .bool true := q1; have hc := And.intro (box5 (G.out.trans (hg1.trans hg))) (cells10 (Grows.block (hg1.trans hg) Hb.out)); exact ⟨⟨_, q1e, rfl⟩, by simp [go_sem, q0e, hc]⟩) ?_
  refine tab_val (.slice (some ⟨w.heap.size + 1 + 1 + 1 + 1 + 1, 0, none⟩) 5 5) (fun r w1 hr hg hA => by obtain ⟨q0, ⟨_, q1⟩, -⟩ := hA; have q0e : r (.tmp 11) = .slice (some ⟨w.heap.size + 1 + 1 + 1 + 1 + 1, 0, none⟩) 5 5 := q0; have q1e : r (.tmp 150) = .bool true := q1; exact ⟨⟨_, q1e, rfl⟩, by simp [go_sem, q0e]⟩) ?_
  refine tab_val (.pointer (some ⟨w.heap.size + 1 + 1 + 1 + 1 + 1, 2, none⟩)) (fun r w1 hr hg hA => by obtain ⟨⟨_, q0⟩, ⟨_, q1⟩, -⟩ := hA; have q0e : r (.tmp 154) = .slice (some ⟨w.heap.size + 1 + 1 + 1 + 1 + 1, 0, none⟩) 5 5 := q0; have q1e : r (.tmp 150) = .bool true := q1; exact ⟨⟨_, q1e, rfl⟩, by simp [go_sem, hr.const, q0e]⟩) ?_
  refine tab_val (pt (bx + tx) (b_y + ty)) (fun r w1 hr hg hA => by obtain ⟨⟨_, q0⟩, ⟨_, q1⟩, -⟩ := hA; have q0e : r (.tmp 155) = .pointer (some ⟨w.heap.size + 1 + 1 + 1 + 1 + 1, 2, none⟩) := q0; have q1e : r (.tmp 150) = .bool true := q1; have hc := And.intro (box5 (G.out.trans (hg1.trans hg))) (cells10 (Grows.block (hg1.trans hg) Hb.out)); exact ⟨⟨_, q1e, rfl⟩, by simp [go_sem, q0e, hc]⟩) ?_
  refine tab_call (v := .bool l) (fun w1 hg => L1.out w1) (fun r w1 hr hg hA => by obtain ⟨⟨_, q0⟩, ⟨_, q1⟩, ⟨_, q2⟩, -⟩ := hA; have q0e : r (.tmp 153) = pt (ax + tx) (ay + ty) := q0; have q1e : r (.tmp 156) = pt (bx + tx) (b_y + ty) := q1; have q2e : r (.tmp 150) = .bool true := q2; exact ⟨⟨_, q2e, rfl⟩, by simp [go_sem, hr.func, q0e, q1e]⟩) ?_
  refine tab_val (pt ax ay) (fun r w1 hr hg hA => by obtain ⟨q0, ⟨_, q1⟩, -⟩ := hA; have q0e : r (.tmp 5) = .pointer (some ⟨w.heap.size, 0, none⟩) := q0; have q1e : r (.tmp 150) = .bool true := q1; have hc := And.intro (box5 (G.out.trans (hg1.trans hg))) (cells10 (Grows.block (hg1.trans hg) Hb.out)); exact ⟨⟨_, q1e, rfl⟩, by simp [go_sem, q0e, hc]⟩) ?_
  refine tab_val (pt bx b_y) (fun r w1 hr hg hA => by obtain ⟨q0, ⟨_, q1⟩, -⟩ := hA; have q0e : r (.tmp 6) = .pointer (some ⟨w.heap.size + 1, 0, none⟩) := q0; have q1e : r (.tmp 150) = .bool true := q1; have hc := And.intro (box5 (G.out.trans (hg1.trans hg))) (cells10 (Grows.block (hg1.trans hg) Hb.out)); exact ⟨⟨_, q1e, rfl⟩, by simp [go_sem, q0e, hc]⟩) ?_
  refine tab_call (v := .bool l) (fun w1 hg => L2.out w1) (fun r w1 hr hg hA => by obtain ⟨⟨_, q0⟩, ⟨_, q1⟩, ⟨_, q2⟩, -⟩ := hA; have q0e : r (.tmp 158) = pt ax ay := q0; have q1e : r (.tmp 159) = pt bx b_y := q1; have q2e : r (.tmp 150) = .bool true := q2; exact ⟨⟨_, q2e, rfl⟩, by simp [go_sem, hr.func, q0e, q1e]⟩) ?_
  refine tab_val (.bool true) (fun r w1 hr hg hA => by obtain ⟨⟨_, q0⟩, ⟨_, q1⟩, ⟨_, q2⟩, -⟩ := hA; have q0e : r (.tmp 157) = .bool l := q0; have q1e : r (.tmp 160) = .bool l := q1; have q2e : r (.tmp 150) = .bool true := q2; exact ⟨⟨_, q2e, rfl⟩, by simp [go_sem, q0e, q1e]⟩) ?_
  refine tab_val (.bool true) (fun r w1 hr hg hA => by obtain ⟨⟨_, q0⟩, ⟨_, q1⟩, -⟩ := hA; have q0e : r (.tmp 150) = .bool true := q0; have q1e : r (.tmp 161) = .bool true := q1; exact ⟨rfl, by simp [go_sem, q0e, q1e]⟩) ?_
  refine tab_val (.bool true) (fun r w1 hr hg hA => by obtain ⟨⟨_, q0⟩, -⟩ := hA; have q0e : r (.tmp 162) = .bool true := q0; exact ⟨rfl, by simp [go_sem, q0e]⟩) ?_
  refine tab_end ?_
  simp only [List.reverse_cons, List.reverse_nil, List.nil_append, List.cons_append, Out, forall_eq, forall_const, Act.put, List.setIfInBounds_toArray, List.set_cons_succ, List.set_cons_zero]
  intro wA hgA
  have G2 := Lib.hid (G.out.trans (hg1.trans hgA))
  clear G Hb hg1 hg1' hgA hw0
  go_wp2
  go_ret
  exact ⟨rfl, ((((((Grows.refl w).al _).al _).al _).al _).al _).trans G2.out⟩
end Go.Proofs.Ytkedcaplbdhmeaa
