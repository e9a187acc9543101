/-
  Layer 20: windows, places, order, parents.
-/
import Derived.Test.YtfhohgemfojjmaaW2
namespace Go.Proofs.Ytfhohgemfojjmaa
open Go.RowKit Go.Tab Go.WideShapes

theorem froz {w : World} {b : Nat} {cs : Array Value} {T : TypeId} (h : w.heap[b]? = some (.cells cs T (0, 0))) (o : Nat) : w.frozen? ⟨b, o, none⟩ = false := by
  simp [World.frozen?, h]
def winB (z x y b : Int) : Bool := tileB z x y && decide (0 ≤ b) && decide (b ≤ 2047)
/-- A tile's window; the zero box of no tile, or no buffer. -/
def winBox (z x y b : Int) : BoxI := if winB z x y b = true then ⟨4096 * x - b, 4096 * y - b, 4096 * x + 4096 + b, 4096 * y + 4096 + b⟩ else ⟨0, 0, 0, 0⟩
theorem tileB_bd {z x y : Int} (h : tileB z x y = true) : 0 ≤ x ∧ x < 16 ∧ 0 ≤ y ∧ y < 16 := by
  have := wide_le z
  simp [tileB] at h
  omega
set_option maxHeartbeats 1000000 in
theorem corner_any (z x y : Int) (w : World) (hx : 0 ≤ x) (hx2 : x < 16) (hy : 0 ≤ y) (hy2 : y < 16) : Calls Try.prog 31 #[tl z x y] w (Ret (pt (4096 * x) (4096 * y)) w) := by
  go_enter Try.func31, Try.ntmps31
  go_wp2
  exact bodyPost_ret (v := pt (4096 * x) (4096 * y)) (by simp [results, Try.results31, go_sem]) rfl ⟨rfl, ((Grows.refl w).al _).al _⟩
set_option maxHeartbeats 2000000 in
theorem window_any (z x y b : Int) (w : World) : Calls Try.prog 7 #[tl z x y, .int .i64 b] w (Ret (.tuple #[bx (winBox z x y b), .bool (winB z x y b)]) w) := by
  have HR := Lib.hid (wright_any z x y)
  have HE : Hid (∀ t u, t = winB z x y b → u = winBox z x y b → (Ret (.tuple #[bx u, .bool t]) w) = (Ret (.tuple #[bx (winBox z x y b), .bool (winB z x y b)]) w)) := Lib.hid (fun t u h k => by rw [h, k])
  have HX : Hid (winB z x y b = (tileB z x y && decide (0 ≤ b) && decide (b ≤ 2047))) := Lib.hid rfl
  have HY : Hid (winBox z x y b = if winB z x y b = true then ⟨4096 * x - b, 4096 * y - b, 4096 * x + 4096 + b, 4096 * y + 4096 + b⟩ else ⟨0, 0, 0, 0⟩) := Lib.hid rfl
  have BK : Hid (∀ w1, Grows ((w.alloc (.cells #[.int .i64 z, .int .i64 x, .int .i64 y] 23)).alloc (.cells #[.int .i64 0, .int .i64 0, .int .i64 0, .int .i64 0] 27)) w1 →
      w1.heap[w.heap.size]? = some (.cells #[.int .i64 z, .int .i64 x, .int .i64 y] 23 (0, 0)) ∧ w1.heap[w.heap.size + 1]? = some (.cells #[.int .i64 0, .int .i64 0, .int .i64 0, .int .i64 0] 27 (0, 0)) ∧ Grows w w1) :=
    Lib.hid fun w1 hg => ⟨hg.block ((Grows.alloc _ _).block (heap_new _ _ _ rfl)), hg.block (heap_new _ _ _ (by simp only [World.size_alloc])), (((Grows.refl w).al _).al _).trans hg⟩
  have WH : (tileB z x y = false ∨ b < 0 ∨ 2047 < b) ∨ (tileB z x y = true ∧ 0 ≤ b ∧ b ≤ 2047) := by
    cases tileB z x y <;> simp; omega
  rcases WH with WH | ⟨ht, hb0, hb1⟩
  · rw [← HE.out false ⟨0, 0, 0, 0⟩ (by rw [HX.out]; rcases WH with h | h | h <;> simp [h] <;> omega) (by rw [HY.out, HX.out, if_neg (by rcases WH with h | h | h <;> simp [h] <;> omega)])]
    clear HE HX HY
    generalize tileB z x y = t at HR WH
    have WW := Lib.hid WH
    clear WH
    go_enter Try.func7, Try.ntmps7
    go_wp2_with fail
    refine (HR.out _).mono ?_
    rintro _ w1 ⟨rfl, hg⟩
    obtain ⟨hb, hc, g⟩ := BK.out _ hg
    have Hb := Lib.hid hb
    have G := Lib.hid g
    obtain ⟨c0, c1, c2, c3⟩ := cells4 hc
    have f0 := froz hc 0
    have f1 := froz hc 1
    have f2 := froz hc 2
    have f3 := froz hc 3
    have Hc := Lib.hid hc
    clear hg hb hc g
    cases t with
    | false =>
      go_wp2
      exact bodyPost_ret (v := .tuple #[bx ⟨0, 0, 0, 0⟩, .bool false]) (by simp [results, Try.results7, go_sem, c0, c1, c2, c3]) rfl ⟨rfl, (((G.out.st (by simp) _).st (by simp) _).st (by simp) _).st (by simp) _⟩
    | true =>
      have hw : b < 0 ∨ 2047 < b := by have := WW.out; simpa using this
      rcases hw with hw | hw
      all_goals
        go_wp2
        exact bodyPost_ret (v := .tuple #[bx ⟨0, 0, 0, 0⟩, .bool false]) (by simp [results, Try.results7, go_sem, c0, c1, c2, c3]) rfl ⟨rfl, (((G.out.st (by simp) _).st (by simp) _).st (by simp) _).st (by simp) _⟩
  · have hwt : winB z x y b = true := by rw [HX.out, ht]; simp [hb0, hb1]
    obtain ⟨x0, x1, y0, y1⟩ := tileB_bd ht
    rw [← HE.out true ⟨4096 * x - b, 4096 * y - b, 4096 * x + 4096 + b, 4096 * y + 4096 + b⟩ hwt.symm (by rw [HY.out, if_pos hwt])]
    rw [ht] at HR
    have HC := Lib.hid (fun w => corner_any z x y w x0 x1 y0 y1)
    clear HE HX HY ht hwt
    go_enter Try.func7, Try.ntmps7
    go_wp2_with fail
    refine (HR.out _).mono ?_
    rintro _ w1 ⟨rfl, hg⟩
    obtain ⟨hb, _, _⟩ := BK.out _ hg
    obtain ⟨b0, b1, b2⟩ := cells3 hb
    have HG := Lib.hid hg
    clear hg hb
    go_wp2_with fail
    refine (HC.out _).mono ?_
    rintro _ w2 ⟨rfl, hg⟩
    obtain ⟨hb, hc, g⟩ := BK.out _ (HG.out.trans hg)
    clear b0 b1 b2
    have G := Lib.hid g
    have hsz := g.size
    obtain ⟨c0, c1, c2, c3⟩ := cells4 hc
    have f0 := froz hc 0
    have f1 := froz hc 1
    have f2 := froz hc 2
    have f3 := froz hc 3
    have hsz1 : w.heap.size + 1 < w2.heap.size := (Array.getElem?_eq_some_iff.1 hc).1
    clear hg hc hb g
    go_wp2
    have hk : ∀ (W : World) (o : Obj) (k : Nat), W.heap.size = w2.heap.size → (W.alloc o).cell? ⟨w.heap.size + 1, k, none⟩ = W.cell? ⟨w.heap.size + 1, k, none⟩ := fun W o k h => World.cell?_alloc_lt _ _ _ (by rw [h]; exact hsz1)
    exact bodyPost_ret (v := .tuple #[bx ⟨4096 * x - b, 4096 * y - b, 4096 * x + 4096 + b, 4096 * y + 4096 + b⟩, .bool true]) (by simp [results, Try.results7, go_sem, c0, c1, c2, c3, hk]) rfl ⟨rfl, ((((G.out.st (by simp) _).st (by simp) _).st (by simp) _).st (by simp) _).al _⟩

set_option maxHeartbeats 2000000 in
theorem rwindow_any (z x y b : Int) (w : World) : Calls Try.prog 8 #[tl z x y, .int .i64 b] w (Ret (.tuple #[bx (winBox z x y b), .bool (winB z x y b)]) w) := by
  have HR := Lib.hid (rtright_any z x y)
  have HE : Hid (∀ t u, t = winB z x y b → u = winBox z x y b → (Ret (.tuple #[bx u, .bool t]) w) = (Ret (.tuple #[bx (winBox z x y b), .bool (winB z x y b)]) w)) := Lib.hid (fun t u h k => by rw [h, k])
  have HX : Hid (winB z x y b = (tileB z x y && decide (0 ≤ b) && decide (b ≤ 2047))) := Lib.hid rfl
  have HY : Hid (winBox z x y b = if winB z x y b = true then ⟨4096 * x - b, 4096 * y - b, 4096 * x + 4096 + b, 4096 * y + 4096 + b⟩ else ⟨0, 0, 0, 0⟩) := Lib.hid rfl
  have BK : Hid (∀ w1, Grows ((w.alloc (.cells #[.int .i64 z, .int .i64 x, .int .i64 y] 35)).alloc (.cells #[.int .i64 0, .int .i64 0, .int .i64 0, .int .i64 0] 32)) w1 →
      w1.heap[w.heap.size]? = some (.cells #[.int .i64 z, .int .i64 x, .int .i64 y] 35 (0, 0)) ∧ w1.heap[w.heap.size + 1]? = some (.cells #[.int .i64 0, .int .i64 0, .int .i64 0, .int .i64 0] 32 (0, 0)) ∧ Grows w w1) :=
    Lib.hid fun w1 hg => ⟨hg.block ((Grows.alloc _ _).block (heap_new _ _ _ rfl)), hg.block (heap_new _ _ _ (by simp only [World.size_alloc])), (((Grows.refl w).al _).al _).trans hg⟩
  have WH : (tileB z x y = false ∨ b < 0 ∨ 2047 < b) ∨ (tileB z x y = true ∧ 0 ≤ b ∧ b ≤ 2047) := by
    cases tileB z x y <;> simp; omega
  rcases WH with WH | ⟨ht, hb0, hb1⟩
  · rw [← HE.out false ⟨0, 0, 0, 0⟩ (by rw [HX.out]; rcases WH with h | h | h <;> simp [h] <;> omega) (by rw [HY.out, HX.out, if_neg (by rcases WH with h | h | h <;> simp [h] <;> omega)])]
    clear HE HX HY
    generalize tileB z x y = t at HR WH
    have WW := Lib.hid WH
    clear WH
    go_enter Try.func8, Try.ntmps8
    go_wp2_with fail
    refine (HR.out _).mono ?_
    rintro _ w1 ⟨rfl, hg⟩
    obtain ⟨hb, hc, g⟩ := BK.out _ hg
    have Hb := Lib.hid hb
    have G := Lib.hid g
    obtain ⟨c0, c1, c2, c3⟩ := cells4 hc
    have f0 := froz hc 0
    have f1 := froz hc 1
    have f2 := froz hc 2
    have f3 := froz hc 3
    have Hc := Lib.hid hc
    clear hg hb hc g
    cases t with
    | false =>
      go_wp2
      exact bodyPost_ret (v := .tuple #[bx ⟨0, 0, 0, 0⟩, .bool false]) (by simp [results, Try.results8, go_sem, c0, c1, c2, c3]) rfl ⟨rfl, (((G.out.st (by simp) _).st (by simp) _).st (by simp) _).st (by simp) _⟩
    | true =>
      have hw : b < 0 ∨ 2047 < b := by have := WW.out; simpa using this
      rcases hw with hw | hw
      all_goals
        go_wp2
        exact bodyPost_ret (v := .tuple #[bx ⟨0, 0, 0, 0⟩, .bool false]) (by simp [results, Try.results8, go_sem, c0, c1, c2, c3]) rfl ⟨rfl, (((G.out.st (by simp) _).st (by simp) _).st (by simp) _).st (by simp) _⟩
  · have hwt : winB z x y b = true := by rw [HX.out, ht]; simp [hb0, hb1]
    obtain ⟨x0, x1, y0, y1⟩ := tileB_bd ht
    rw [← HE.out true ⟨4096 * x - b, 4096 * y - b, 4096 * x + 4096 + b, 4096 * y + 4096 + b⟩ hwt.symm (by rw [HY.out, if_pos hwt])]
    rw [ht] at HR
    clear HE HX HY ht hwt
    go_enter Try.func8, Try.ntmps8
    go_wp2_with fail
    refine (HR.out _).mono ?_
    rintro _ w1 ⟨rfl, hg⟩
    obtain ⟨hb, hc, g⟩ := BK.out _ hg
    obtain ⟨b0, b1, b2⟩ := cells3 hb
    have G := Lib.hid g
    have hsz := g.size
    obtain ⟨c0, c1, c2, c3⟩ := cells4 hc
    have f0 := froz hc 0
    have f1 := froz hc 1
    have f2 := froz hc 2
    have f3 := froz hc 3
    have hsz1 : w.heap.size + 1 < w1.heap.size := (Array.getElem?_eq_some_iff.1 hc).1
    clear hg hc hb g
    go_wp2
    exact bodyPost_ret (v := .tuple #[bx ⟨4096 * x - b, 4096 * y - b, 4096 * x + 4096 + b, 4096 * y + 4096 + b⟩, .bool true]) (by simp [results, Try.results8, go_sem, c0, c1, c2, c3]) rfl ⟨rfl, ((((G.out).st (by simp) _).st (by simp) _).st (by simp) _).st (by simp) _⟩


set_option maxHeartbeats 1000000 in
theorem place_any (z x y : Int) (w : World) : Calls Try.prog 9 #[tl z x y] w (Ret (.tuple #[bx (winBox z x y 0), .bool (winB z x y 0)]) w) := by
  have HW := Lib.hid (window_any z x y 0)
  generalize winBox z x y 0 = u at HW ⊢
  generalize winB z x y 0 = t at HW ⊢
  obtain ⟨lx, ly, hx, hy⟩ := u
  go_enter Try.func9, Try.ntmps9
  go_wp2_with fail
  refine (HW.out _).mono ?_
  rintro _ w1 ⟨rfl, hg⟩
  have hc := hg.block (heap_new (w.alloc (.cells #[.int .i64 z, .int .i64 x, .int .i64 y] 23)) (.cells #[.int .i64 0, .int .i64 0, .int .i64 0, .int .i64 0] 27) (w.heap.size + 1) (by simp only [World.size_alloc]))
  have G := Lib.hid ((((Grows.refl w).al _).al _).trans hg)
  obtain ⟨c0, c1, c2, c3⟩ := cells4 hc
  have f0 := froz hc 0
  have f1 := froz hc 1
  have f2 := froz hc 2
  have f3 := froz hc 3
  clear hg hc
  go_wp2
  exact bodyPost_ret (v := .tuple #[bx ⟨lx, ly, hx, hy⟩, .bool t]) (by simp [results, Try.results9, go_sem, c0, c1, c2, c3]) rfl ⟨rfl, (((G.out.st (by simp) _).st (by simp) _).st (by simp) _).st (by simp) _⟩

def lessT (z x y z2 x2 y2 : Int) : Bool := if z = z2 then (if x = x2 then decide (y < y2) else decide (x < x2)) else decide (z < z2)
set_option maxHeartbeats 1000000 in
theorem wless_any (z x y z2 x2 y2 : Int) (w : World) : Calls Try.prog 13 #[tl z x y, tl z2 x2 y2] w (Ret (.bool (lessT z x y z2 x2 y2)) w) := by
  go_enter Try.func13, Try.ntmps13
  go_wp2
  all_goals
    go_ret
    exact ⟨ret_bool (by unfold lessT; simp_all), ((Grows.refl w).al _).al _⟩
set_option maxHeartbeats 1000000 in
theorem rtless_any (z x y z2 x2 y2 : Int) (w : World) : Calls Try.prog 14 #[tl z x y, tl z2 x2 y2] w (Ret (.bool (lessT z x y z2 x2 y2)) w) := by
  go_enter Try.func14, Try.ntmps14
  go_wp2
  all_goals
    go_ret
    exact ⟨ret_bool (by unfold lessT; simp_all), ((Grows.refl w).al _).al _⟩

end Go.Proofs.Ytfhohgemfojjmaa
