/-
  Layer 2: two points in order; how two segments of one line lie.
-/
import Derived.RegionTactic
import Derived.BigRegion
import Derived.Test.YtlgplhanhnjeiaaE5n
import Derived.Test.YtlgplhanhnjeiaaS1
namespace Go.Proofs.Ytlgplhanhnjeiaa
open Go.RowKit Go.Tab

abbrev pp (p : Pt) : Value := pt p.1 p.2
theorem less_pt (p q : Pt) (w : World) : Calls Try.prog 37 #[pp p, pp q] w (Ret (.bool (le2 p q)) w) := less_any _ _ _ _ w
theorem frz {w : World} {b : Nat} {cs : Array Value} {T : TypeId} (h : w.heap[b]? = some (.cells cs T (0, 0))) (o : Nat) : w.frozen? ⟨b, o, none⟩ = false := by
  simp [World.frozen?, h]

set_option maxHeartbeats 2000000 in
theorem rising_any (p q : Pt) (w : World) : Calls Try.prog 36 #[pp p, pp q] w (Ret (.tuple #[pp (lo p q), pp (hi p q)]) w) := by
  have HL := Lib.hid (less_pt q p)
  unfold lo hi
  obtain ⟨x, y⟩ := p
  obtain ⟨u, v⟩ := q
  unfold pp at HL ⊢
  simp only at HL ⊢
  cases hb : le2 (u, v) (x, y) <;> rw [hb] at HL <;> simp only [if_true, if_false, Bool.false_eq_true] <;> clear hb
  all_goals
    go_enter Try.func36, Try.ntmps36
    go_wp2_with fail
    refine (HL.out _).mono ?_
    rintro _ w1 ⟨rfl, hg⟩
    have h2 := hg.block (((Grows.refl _).al _).al _ |>.al _ |>.block (heap_new w (.cells #[.int .i64 x, .int .i64 y] 23) _ rfl))
    have h3 := hg.block (((Grows.refl _).al _).al _ |>.block (heap_new (w.alloc (.cells #[.int .i64 x, .int .i64 y] 23)) (.cells #[.int .i64 u, .int .i64 v] 23) (w.heap.size + 1) (by simp)))
    have h4 := hg.block ((Grows.alloc _ _).block (heap_new ((w.alloc (.cells #[.int .i64 x, .int .i64 y] 23)).alloc (.cells #[.int .i64 u, .int .i64 v] 23)) (.cells #[.int .i64 0, .int .i64 0] 23) (w.heap.size + 1 + 1) (by simp)))
    have h5 := hg.block (heap_new (((w.alloc (.cells #[.int .i64 x, .int .i64 y] 23)).alloc (.cells #[.int .i64 u, .int .i64 v] 23)).alloc (.cells #[.int .i64 0, .int .i64 0] 23)) (.cells #[.int .i64 0, .int .i64 0] 23) (w.heap.size + 1 + 1 + 1) (by simp))
    obtain ⟨a0, a1, -, -⟩ := cells2 h2
    obtain ⟨b0, b1, -, -⟩ := cells2 h3
    obtain ⟨c0, c1, f0, f1⟩ := cells2 h4
    obtain ⟨d0, d1, g0, g1⟩ := cells2 h5
    have G := Lib.hid (((((Grows.refl w).al _).al _).al _).al _ |>.trans hg)
    have hs : w.heap.size + 3 < w1.heap.size := by have := hg.size; simp only [World.size_alloc] at this; omega
    clear hg h2 h3 h4 h5
    go_wp2
    go_region
    all_goals go_wp2
    all_goals
      refine bodyPost_ret (v := .tuple #[pt _ _, pt _ _]) (by simp [results, Try.results36, go_sem, a0, a1, b0, b1, c0, c1, d0, d1]) rfl ⟨rfl, ?_⟩
      exact (((G.out.dr.st (by simp; omega) _).st (by simp; omega) _).st (by simp; omega) _).st (by simp; omega) _
end Go.Proofs.Ytlgplhanhnjeiaa
