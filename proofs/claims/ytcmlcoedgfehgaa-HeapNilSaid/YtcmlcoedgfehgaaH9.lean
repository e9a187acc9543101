/-
  Layer 5: the law on a nil heap (but for the chapter's example).
-/
import Derived.Test.YtcmlcoedgfehgaaH1
namespace Go.Proofs.Ytcmlcoedgfehgaa
open Go.RowKit Go.Tab Go.WideShapes

theorem boxE {w w1 : World} {x y z : Value} {T : TypeId} (h : Grows (w.alloc (.cells #[x, y, z] T)) w1) : w1.heap[w.heap.size]? = some (.cells #[x, y, z] T (0, 0)) := h.block (heap_new _ _ _ rfl)

set_option maxRecDepth 100000 in
set_option maxHeartbeats 2000000 in
theorem law_nil (kn : ∀ w, Calls Try.prog 17 #[] w (Ret (.bool true) w)) (e : Int × Int × Int) (w : World) : Calls Try.prog 5 #[en e] w (Ret (.bool true) w) := by
  have KN := Lib.hid kn
  obtain ⟨x, y, z⟩ := e
  clear kn
  go_enter Try.func5, Try.ntmps5
  go_wp2_with fail
  refine (pop_nil _).mono ?_
  rintro _ w1 ⟨rfl, hg⟩
  have G1 := Lib.hid hg
  have BE := boxE hg
  have S1 := hg.size
  simp only [World.size_alloc] at S1
  clear hg
  go_wp2_with fail
  refine (top_nil _).mono ?_
  rintro _ w2 ⟨rfl, hg⟩
  have BA := boxE hg
  have BE2 := hg.block ((Grows.alloc w1 (.cells #[.int .i64 0, .int .i64 0, .int .i64 0] 30)).block BE)
  have G0 := Lib.hid ((G1.out.al (.cells #[.int .i64 0, .int .i64 0, .int .i64 0] 30)).trans hg)
  have S2 := hg.size
  simp only [World.size_alloc] at S2
  have BX : Hid (∀ w', Grows (w2.alloc (.cells #[.int .i64 0, .int .i64 0, .int .i64 0] 30)) w' → w'.heap[w.heap.size]? = some (.cells #[.int .i64 x, .int .i64 y, .int .i64 z] 30 (0, 0)) ∧ w'.heap[w1.heap.size]? = some (.cells #[.int .i64 0, .int .i64 0, .int .i64 0] 30 (0, 0)) ∧ w'.heap[w2.heap.size]? = some (.cells #[.int .i64 0, .int .i64 0, .int .i64 0] 30 (0, 0))) := Lib.hid fun w' hg' =>
    ⟨hg'.block ((Grows.alloc w2 _).block BE2), hg'.block ((Grows.alloc w2 _).block BA), boxE hg'⟩
  clear hg BE BA BE2
  go_wp2_with fail
  refine (KN.out _).mono ?_
  rintro _ wn ⟨rfl, hg⟩
  have G := Lib.hid (hg)
  clear hg
  obtain ⟨k0, k1, k2⟩ := BX.out _ G.out
  obtain ⟨x0, x1, x2, _, _, _⟩ := cells3 k0
  obtain ⟨y0, y1, y2, _, _, _⟩ := cells3 k1
  obtain ⟨z0, z1, z2, _, _, _⟩ := cells3 k2
  clear k0 k1 k2
  go_wp2_with fail
  refine (push_nil _ _).mono ?_
  rintro _ wn ⟨rfl, hg⟩
  have G := Lib.hid ((G.out.al _).trans hg)
  clear hg x0 x1 x2 y0 y1 y2 z0 z1 z2
  obtain ⟨k0, k1, k2⟩ := BX.out _ G.out
  obtain ⟨x0, x1, x2, _, _, _⟩ := cells3 k0
  obtain ⟨y0, y1, y2, _, _, _⟩ := cells3 k1
  obtain ⟨z0, z1, z2, _, _, _⟩ := cells3 k2
  clear k0 k1 k2
  go_wp2_with fail
  refine (drop_nil _ _).mono ?_
  rintro _ wn ⟨rfl, hg⟩
  have G := Lib.hid ((G.out.al _).trans hg)
  clear hg x0 x1 x2 y0 y1 y2 z0 z1 z2
  obtain ⟨k0, k1, k2⟩ := BX.out _ G.out
  obtain ⟨x0, x1, x2, _, _, _⟩ := cells3 k0
  obtain ⟨y0, y1, y2, _, _, _⟩ := cells3 k1
  obtain ⟨z0, z1, z2, _, _, _⟩ := cells3 k2
  clear k0 k1 k2
  go_wp2_with fail
  refine (len_nil _).mono ?_
  rintro _ wn ⟨rfl, hg⟩
  have G := Lib.hid (G.out.trans hg)
  clear hg x0 x1 x2 y0 y1 y2 z0 z1 z2
  obtain ⟨k0, k1, k2⟩ := BX.out _ G.out
  obtain ⟨x0, x1, x2, _, _, _⟩ := cells3 k0
  obtain ⟨y0, y1, y2, _, _, _⟩ := cells3 k1
  obtain ⟨z0, z1, z2, _, _, _⟩ := cells3 k2
  clear k0 k1 k2
  go_wp2_with fail
  refine (all_nil _).mono ?_
  rintro _ wn ⟨rfl, hg⟩
  have G := Lib.hid (G.out.trans hg)
  clear hg x0 x1 x2 y0 y1 y2 z0 z1 z2
  obtain ⟨k0, k1, k2⟩ := BX.out _ G.out
  obtain ⟨x0, x1, x2, _, _, _⟩ := cells3 k0
  obtain ⟨y0, y1, y2, _, _, _⟩ := cells3 k1
  obtain ⟨z0, z1, z2, _, _, _⟩ := cells3 k2
  clear k0 k1 k2
  go_wp2
  go_ret
  exact ⟨rfl, ((((Grows.refl w).al _).trans G0.out).al _).trans G.out⟩
end Go.Proofs.Ytcmlcoedgfehgaa
