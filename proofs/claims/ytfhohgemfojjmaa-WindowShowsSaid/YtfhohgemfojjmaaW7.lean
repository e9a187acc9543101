/-
  Layer 20: a level's tiles.
-/
import Derived.Test.YtfhohgemfojjmaaW6
namespace Go.Proofs.Ytfhohgemfojjmaa
open Go.RowKit Go.Tab Go.WideShapes Go.Shelf
attribute [local go_sem] Oper.semAt_some

theorem infoT : (Try.prog.info? 23).map (fun i => (i.zero, i.size, i.bytes)) = some (some (.agg #[.int .i64 0, .int .i64 0, .int .i64 0]), 3, 24) := by kernel_rfl
def flatT (l : List Tl) : List Value := l.flatMap fun t => [.int .i64 t.1, .int .i64 t.2.1, .int .i64 t.2.2]
theorem flatT_snoc (l : List Tl) (t : Tl) : flatT (l ++ [t]) = flatT l ++ [.int .i64 t.1, .int .i64 t.2.1, .int .i64 t.2.2] := by simp [flatT]
theorem cell_three_new (W : World) (T : TypeId) (a b c : Value) : ∀ j u, [a, b, c][j]? = some u → (W.alloc (.cells #[a, b, c] T)).cell? ((⟨W.heap.size, 0, none⟩ : Addr).add j) = some u := by
  intro j u h
  have hh : (W.alloc (.cells #[a, b, c] T)).heap[W.heap.size]? = some (.cells #[a, b, c] T (0, 0)) := heap_new _ _ _ rfl
  obtain ⟨c0, c1, c2⟩ := cells3 hh
  rw [add_at, Nat.zero_add]
  match j with
  | 0 => cases h; exact c0
  | 1 => cases h; exact c1
  | 2 => cases h; exact c2
  | j + 3 => simp at h

set_option maxRecDepth 100000 in
set_option maxHeartbeats 2000000 in
theorem wall_in (m : Nat) (hm : 3 ≤ m) (z : Int) (w : World) :
    CallsIn Fence.wide m Try.prog 16 #[.int .i64 z] w fun e W' => ∃ v, e = .returned v ∧ W'.ownsRow w.heap.size 23 3 v (tilesL z).length (flatT (tilesL z)) ∧ Below w.heap.size w W' := by
  have h1 : 1 ≤ m := by omega
  have hnn : wideN z * wideN z ≤ 256 := Nat.mul_le_mul (wide_le z) (wide_le z)
  obtain ⟨i0, hi, hz0, hz1, hz2⟩ := info_parts infoT
  refine callsIn_of_wp_marks Try.func16 rfl trivial ?_ rfl
  simp only [Try.ntmps16, List.size_toArray, List.length_cons, List.length_nil, Nat.reduceAdd, Nat.reduceSub, Array.replicate_succ, Array.replicate_zero, List.push_toArray, List.append_toArray, List.nil_append, List.cons_append]
  gi_wp2_with (refine ⟨trivial, ?_⟩; gi_at_call 35; refine (callsIn_wide.2 (tiles_any _ _)).mono ?_; rintro e w' ⟨rfl, rfl⟩)
  have bO := (Boxed.new w 43 (.slice none 0 0)).alloc (.cells #[.int .i64 z] 3)
  have bN := Boxed.new (w.alloc (.cells #[.slice none 0 0] 43)) 3 (.int .i64 z)
  rw [World.size_alloc] at bN
  have hB0 : Below w.heap.size w ((w.alloc (.cells #[.slice none 0 0] 43)).alloc (.cells #[.int .i64 z] 3)) := ((Below.refl _ w).alloc (Nat.le_refl _) _).alloc (by simp) _
  have hsz : ((w.alloc (.cells #[.slice none 0 0] 43)).alloc (.cells #[.int .i64 z] 3)).heap.size = w.heap.size + 2 := by simp
  obtain ⟨W0, hW0⟩ : ∃ W0, (w.alloc (.cells #[.slice none 0 0] 43)).alloc (.cells #[.int .i64 z] 3) = W0 := ⟨_, rfl⟩
  rw [hW0] at bO bN hB0 hsz ⊢
  clear hW0
  refine wpIn_rangeFunc_ownH rfl h1 (gf := 42) (lb := #[.pointer (some ⟨w.heap.size + 1, 0, none⟩)]) rfl trivial (enters_of Try.func42 (by kernel_rfl) rfl)
    (tiles_stops (m - 1) (by omega) (w.heap.size + 1) z W0 bN) KpB.trans (KpB.put (by omega)) (Below.refl _ _) (fun _ => rfl)
    (fun pre W => ((∃ v, Boxed W w.heap.size 43 v ∧ W.ownsRow w.heap.size 23 3 v pre.length (flatT pre) ∧ True) ∧ Boxed W (w.heap.size + 1) 3 (.int .i64 z)) ∧ Below w.heap.size w W)
    (fun _ _ _ => False)
    (OwnFrom.and (OwnFrom.and (Own.from (holdsRow_own w.heap.size w.heap.size 43 23 3 (fun pre => pre.length) (fun pre => flatT pre) (fun _ _ => True)) _) (Own.from (boxed_own _ _ _) _)) (ownFrom_below (Nat.le_refl _) (by omega)))
    (fun _ _ _ _ _ hs _ _ => hs)
    ⟨⟨⟨_, bO, World.ownsRow_nil _ _ _ _, trivial⟩, bN⟩, hB0⟩
    (fun x a' W => ∃ Bx, w.heap.size < Bx ∧ W.heap[Bx]? = some (.cells #[.int .i64 x.1, .int .i64 x.2.1, .int .i64 x.2.2] 23 (0, 0)) ∧ a' = { tmps := #[.int .i64 z, undef, .slice none 0 0, .pointer (some ⟨w.heap.size, 0, none⟩), .pointer (some ⟨Bx, 0, none⟩), .int .i64 z, .func (.func 42) #[] #[.pointer (some ⟨w.heap.size + 1, 0, none⟩)], tv x, undef, undef, undef, undef, undef], defers := [] })
    (fun x a' _ X Y row hs hg hr => by
      obtain ⟨Bx, e1, e2, e3⟩ := hs
      exact ⟨Bx, e1, (hg.block Bx (Array.getElem?_eq_some_iff.1 e2).1 (fun e' => by obtain ⟨o, ho, hc⟩ := (hr Bx e'.symm).2; rw [e2] at ho; cases ho; cases hc)).trans e2, e3⟩)
    ?assign ?body ?done ?stop
  case assign =>
    rintro l pre x W K ⟨⟨⟨v, hv, hrow, -⟩, hz⟩, hB⟩ hK
    gi_wp2
    exact hK _ _ ((KeepsOthers.alloc _ _).from _) (KpB.alloc _ _ _) ⟨⟨⟨v, hv.alloc _, hrow.alloc _, trivial⟩, hz.alloc _⟩, hB.alloc hB.size _⟩ ⟨W.heap.size, hv.lt, heap_new _ _ _ rfl, rfl⟩
  case body =>
    rintro l pre x a' W hl ⟨r, hr⟩ ⟨⟨⟨v, hv, hrow, -⟩, hz⟩, hB⟩ ⟨Bx, hBx, hX, rfl⟩ hlt
    have hc := hv.cell
    obtain ⟨t0, t1, t2⟩ := cells3 hX
    have HX := Lib.hid hX
    have HZ := Lib.hid hz
    clear hz
    have hle := hB.size
    clear hX
    gi_wp2_with (gi_at_builtin; refine wpListIn_append_own _ rfl _ _ 43 rfl w.heap.size 23 i0 _ 3 24 Try.underlying43 hi hz0 hz1 hz2 rfl (by decide) _ _ _ rfl (hrow.alloc _) ⟨W.heap.size, 0, none⟩ 1 1 [.int .i64 x.1, .int .i64 x.2.1, .int .i64 x.2.2] rfl rfl (cell_three_new _ _ _ _ _) (by simp [Value.oneCell']) (by unfold maxLen; omega) (by omega) (by have := hB.size; simp; omega) ?_; intro v' w1 hown' hgrow _; obtain ⟨g', cap', rfl⟩ := ownsRow_succ hown'; obtain ⟨hv1, hv2, hr2, hk2, hb2⟩ := hv.appended (by decide) hrow hB.size (Nat.le_refl _) hown' hgrow; have HZ1 := Lib.hid ((HZ.out.alloc _).kept hgrow (HZ.out.not_row (by decide) hrow)); have hc1 := hv1.cell; have hf1 := hv1.frozen)
    exact ⟨hk2.from _, fun o ho => by rw [show W.heap[w.heap.size + 1]? = _ from HZ.out] at ho; cases ho; exact HZ1.out.other (by omega) _, ⟨⟨_, hv2, by rw [flatT_snoc]; simpa using hr2, trivial⟩, HZ1.out.other (by omega) _⟩, hB.trans hb2⟩
  case done =>
    rintro D ys W hD rfl ⟨⟨⟨v, hv, hrow, -⟩, -⟩, hB⟩ hK
    have hc := hv.cell
    gi_wp2
    refine ⟨by simp, .inl ⟨_, _, rfl, run_takeDeferred hK, ?_⟩⟩
    exact ⟨_, results_tmp rfl _ _ _, v, rfl, ownsRow_putObj hrow _ hK rfl, hB.trans (belowK_b (w := w) (Nat.le_refl _) W D _ _ (by omega) hK rfl rfl)⟩
  case stop =>
    rintro D c pre W _ _ h _
    exact h.elim

theorem wall_any (z : Int) (w : World) : Calls Try.prog 16 #[.int .i64 z] w fun e W' => ∃ v, e = .returned v ∧ W'.ownsRow w.heap.size 23 3 v (tilesL z).length (flatT (tilesL z)) ∧ Grows w W' :=
  callsIn_wide.1 (wall_in 3 (Nat.le_refl _) z w)
end Go.Proofs.Ytfhohgemfojjmaa
