/-
  Layer 20: boxes as the document's; a tile's parent; the tile that has a point.
-/
import Derived.Test.YtfhohgemfojjmaaW3
import Derived.Test.YtfhohgemfojjmaaTQ
namespace Go.Proofs.Ytfhohgemfojjmaa
open Go.RowKit Go.Tab Go.WideShapes

set_option maxHeartbeats 2000000 in
theorem box_any (lx ly hx hy : Int) (w : World) : Calls Try.prog 12 #[bx ⟨lx, ly, hx, hy⟩] w (Ret (bx ⟨lx, ly, hx, hy⟩) w) := by
  have BX : Hid (∀ w1, Grows ((w.alloc (.cells #[.int .i64 lx, .int .i64 ly, .int .i64 hx, .int .i64 hy] 27)).alloc (.cells #[.int .i64 0, .int .i64 0, .int .i64 0, .int .i64 0] 32)) w1 →
      w1.cell? ⟨w.heap.size, 0, none⟩ = some (.int .i64 lx) ∧ w1.cell? ⟨w.heap.size, 1, none⟩ = some (.int .i64 ly) ∧ w1.cell? ⟨w.heap.size, 2, none⟩ = some (.int .i64 hx) ∧ w1.cell? ⟨w.heap.size, 3, none⟩ = some (.int .i64 hy)) :=
    Lib.hid fun w1 hg => cells4 (hg.block ((Grows.alloc _ _).block (heap_new _ _ _ rfl)))
  have BK : Hid (∀ w1, Grows ((w.alloc (.cells #[.int .i64 lx, .int .i64 ly, .int .i64 hx, .int .i64 hy] 27)).alloc (.cells #[.int .i64 0, .int .i64 0, .int .i64 0, .int .i64 0] 32)) w1 →
      w1.heap[w.heap.size + 1]? = some (.cells #[.int .i64 0, .int .i64 0, .int .i64 0, .int .i64 0] 32 (0, 0)) ∧ Grows w w1) :=
    Lib.hid fun w1 hg => ⟨hg.block (heap_new _ _ _ (by simp only [World.size_alloc])), (((Grows.refl w).al _).al _).trans hg⟩
  go_enter Try.func12, Try.ntmps12
  go_wp2_with fail
  refine wp_region_tab 7 (by kernel_rfl) (by kernel_rfl) ?_
  intro w0 hw0 hg1 hg1'
  simp only [List.take_succ_cons, List.take_zero, List.drop_succ_cons, List.drop_zero]
  refine tab_val (.pointer (some ⟨w.heap.size, 0, none⟩)) (fun r w1 hr hg hA => by obtain ⟨q0, -⟩ := hA; have q0e : r (.tmp 1) = .pointer (some ⟨w.heap.size, 0, none⟩) := q0; exact ⟨rfl, by simp [go_sem, q0e]⟩) ?_
  refine tab_val (pt lx ly) (fun r w1 hr hg hA => by obtain ⟨⟨_, q0⟩, -⟩ := hA; have q0e : r (.tmp 3) = .pointer (some ⟨w.heap.size, 0, none⟩) := q0; have hc := BX.out w1 (hg1.trans hg); exact ⟨rfl, by simp [go_sem, q0e, hc]⟩) ?_
  refine tab_call (v := pt lx ly) (fun w1 hg => of_any lx ly w1) (fun r w1 hr hg hA => by obtain ⟨⟨_, q0⟩, -⟩ := hA; have q0e : r (.tmp 4) = pt lx ly := q0; exact ⟨rfl, by simp [go_sem, hr.func, q0e]⟩) ?_
  refine tab_val (.pointer (some ⟨w.heap.size, 2, none⟩)) (fun r w1 hr hg hA => by obtain ⟨q0, -⟩ := hA; have q0e : r (.tmp 1) = .pointer (some ⟨w.heap.size, 0, none⟩) := q0; exact ⟨rfl, by simp [go_sem, q0e]⟩) ?_
  refine tab_val (pt hx hy) (fun r w1 hr hg hA => by obtain ⟨⟨_, q0⟩, -⟩ := hA; have q0e : r (.tmp 6) = .pointer (some ⟨w.heap.size, 2, none⟩) := q0; have hc := BX.out w1 (hg1.trans hg); exact ⟨rfl, by simp [go_sem, q0e, hc]⟩) ?_
  refine tab_call (v := pt hx hy) (fun w1 hg => of_any hx hy w1) (fun r w1 hr hg hA => by obtain ⟨⟨_, q0⟩, -⟩ := hA; have q0e : r (.tmp 7) = pt hx hy := q0; exact ⟨rfl, by simp [go_sem, hr.func, q0e]⟩) ?_
  refine tab_val (bx ⟨lx, ly, hx, hy⟩) (fun r w1 hr hg hA => by obtain ⟨⟨_, q0⟩, ⟨_, q1⟩, -⟩ := hA; have q0e : r (.tmp 5) = pt lx ly := q0; have q1e : r (.tmp 8) = pt hx hy := q1; exact ⟨rfl, by simp [go_sem, q0e, q1e]⟩) ?_
  refine tab_end ?_
  simp only [List.reverse_cons, List.reverse_nil, List.nil_append, List.cons_append, Out, BlockP, forall_eq, forall_const, Act.put, List.setIfInBounds_toArray, List.set_cons_succ, List.set_cons_zero]
  intro w1 hgA
  obtain ⟨hc, g⟩ := BK.out _ (hg1.trans hgA)
  have G := Lib.hid g
  obtain ⟨c0, c1, c2, c3⟩ := cells4 hc
  have f0 := froz hc 0
  have f1 := froz hc 1
  have f2 := froz hc 2
  have f3 := froz hc 3
  clear hc g hg1 hg1' hw0 hgA
  go_wp2
  exact bodyPost_ret (v := bx ⟨lx, ly, hx, hy⟩) (by simp [results, Try.results12, go_sem, c0, c1, c2, c3]) rfl ⟨rfl, (((G.out.st (by simp) _).st (by simp) _).st (by simp) _).st (by simp) _⟩

def parB (z x y : Int) : Bool := tileB z x y && decide (z ≠ 0)
def parT (z x y : Int) : Int × Int × Int := if parB z x y = true then (z - 1, x / 2, y / 2) else (0, 0, 0)
theorem tile_zero {x y : Int} (h : tileB 0 x y = true) : x = 0 ∧ y = 0 := by
  simp [tileB, wideN] at h
  omega
set_option maxHeartbeats 2000000 in
theorem parent_any (z x y : Int) (w : World) : Calls Try.prog 18 #[tl z x y] w (Ret (.tuple #[tl (parT z x y).1 (parT z x y).2.1 (parT z x y).2.2, .bool (parB z x y)]) w) := by
  have HR := Lib.hid (wright_any z x y)
  have BK : Hid (∀ w1, Grows ((w.alloc (.cells #[.int .i64 z, .int .i64 x, .int .i64 y] 23)).alloc (.cells #[.int .i64 0, .int .i64 0, .int .i64 0] 23)) w1 →
      w1.heap[w.heap.size]? = some (.cells #[.int .i64 z, .int .i64 x, .int .i64 y] 23 (0, 0)) ∧ w1.heap[w.heap.size + 1]? = some (.cells #[.int .i64 0, .int .i64 0, .int .i64 0] 23 (0, 0)) ∧ Grows w w1) :=
    Lib.hid fun w1 hg => ⟨hg.block ((Grows.alloc _ _).block (heap_new _ _ _ rfl)), hg.block (heap_new _ _ _ (by simp only [World.size_alloc])), (((Grows.refl w).al _).al _).trans hg⟩
  cases ht : tileB z x y with
  | false =>
    have hp : parB z x y = false := by unfold parB; rw [ht]; rfl
    have hq : parT z x y = (0, 0, 0) := by unfold parT; rw [hp]; rfl
    rw [hp, hq]
    rw [ht] at HR
    clear ht hp hq
    go_enter Try.func18, Try.ntmps18
    go_wp2_with fail
    refine (HR.out _).mono ?_
    rintro _ w1 ⟨rfl, hg⟩
    obtain ⟨hb, hc, g⟩ := BK.out _ hg
    have G := Lib.hid g
    obtain ⟨c0, c1, c2⟩ := cells3 hc
    have f0 := froz hc 0
    have f1 := froz hc 1
    have f2 := froz hc 2
    clear hg hb hc g
    go_wp2
    exact bodyPost_ret (v := .tuple #[tl 0 0 0, .bool false]) (by simp [results, Try.results18, go_sem, c0, c1, c2]) rfl ⟨rfl, ((G.out.st (by simp) _).st (by simp) _).st (by simp) _⟩
  | true =>
    by_cases hz : z = 0
    · subst hz
      obtain ⟨rfl, rfl⟩ := tile_zero ht
      rw [ht] at HR
      rw [show parB 0 0 0 = false from rfl, show parT 0 0 0 = (0, 0, 0) from rfl]
      clear ht
      go_enter Try.func18, Try.ntmps18
      go_wp2_with fail
      refine (HR.out _).mono ?_
      rintro _ w1 ⟨rfl, hg⟩
      obtain ⟨hb, hc, g⟩ := BK.out _ hg
      have G := Lib.hid g
      obtain ⟨c0, c1, c2⟩ := cells3 hc
      obtain ⟨b0, b1, b2⟩ := cells3 hb
      have f0 := froz hc 0
      have f1 := froz hc 1
      have f2 := froz hc 2
      clear hg hb hc g
      go_wp2
      exact bodyPost_ret (v := .tuple #[tl 0 0 0, .bool false]) (by simp [results, Try.results18, go_sem, c0, c1, c2]) rfl ⟨rfl, ((G.out.st (by simp) _).st (by simp) _).st (by simp) _⟩
    · have hp : parB z x y = true := by unfold parB; rw [ht]; simp [hz]
      have hq : parT z x y = (z - 1, x / 2, y / 2) := by unfold parT; rw [hp]; rfl
      rw [hp, hq]
      rw [ht] at HR
      obtain ⟨x0, x1, y0, y1⟩ := tileB_bd ht
      have hl : 0 ≤ z ∧ z ≤ 4 := by
        cases h : levelB z
        · rw [tileB_no h] at ht; cases ht
        · simpa [levelB] using h
      obtain ⟨hl1, hl2⟩ := hl
      have hzB : (z == 0) = false := by simpa using hz
      clear ht hp hq
      go_enter Try.func18, Try.ntmps18
      go_wp2_with fail
      refine (HR.out _).mono ?_
      rintro _ w1 ⟨rfl, hg⟩
      obtain ⟨hb, hc, g⟩ := BK.out _ hg
      have G := Lib.hid g
      obtain ⟨c0, c1, c2⟩ := cells3 hc
      obtain ⟨b0, b1, b2⟩ := cells3 hb
      have f0 := froz hc 0
      have f1 := froz hc 1
      have f2 := froz hc 2
      clear hg hb hc g
      go_wp2
      exact bodyPost_ret (v := .tuple #[tl (z - 1) (x / 2) (y / 2), .bool true]) (by simp [results, Try.results18, go_sem, c0, c1, c2]) rfl ⟨rfl, ((G.out.st (by simp) _).st (by simp) _).st (by simp) _⟩

/-- Whether a level has a point. -/
def hasB (z px py : Int) : Bool := levelB z && decide (0 ≤ px) && decide (px ≤ 4096 * (wideN z : Int)) && decide (0 ≤ py) && decide (py ≤ 4096 * (wideN z : Int))
def ofT (z px py : Int) : Int × Int × Int := if hasB z px py = true then (z, min (px / 4096) ((wideN z : Int) - 1), min (py / 4096) ((wideN z : Int) - 1)) else (0, 0, 0)
theorem min_if (a b : Int) : (if a < b then a else b) = min a b := by rw [Int.min_def]; split <;> split <;> omega
theorem min_if2 (a b : Int) : (if b < a then b else a) = min a b := by rw [Int.min_def]; split <;> split <;> omega

end Go.Proofs.Ytfhohgemfojjmaa
