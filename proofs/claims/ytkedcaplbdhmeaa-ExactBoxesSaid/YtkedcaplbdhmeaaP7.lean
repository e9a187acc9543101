/-
  For any points the law on boxes, graticulelaw01.ExactBoxes, returns true and leaves its argument as it was. No condition.
-/
import Derived.Test.YtkedcaplbdhmeaaL7
import Derived.ProofKit
import Derived.Lib.SmallJoins
import Derived.Deep.SlicePairs
import Derived.Carry
namespace Go.Proofs.Ytkedcaplbdhmeaa
open Go.ChangeShapes Go.WideShapes Go.ChangeAt Go.RowKit Go.Tab Go.Joins Go.Deep

theorem boxes_own : ownKnob Try.prog.godebug = none := by kernel_rfl
theorem boxes_cells : Try.prog.cellsOf 23 = 2 := by kernel_rfl

theorem cell_lt {w : World} {b o : Nat} {s : Option Nat} {v : Value} (h : w.cell? ⟨b, o, s⟩ = some v) : b < w.heap.size := by
  by_cases hb : b < w.heap.size
  · exact hb
  · exfalso
    have : w.heap[b]? = none := by simp only [Array.getElem?_eq_none_iff]; omega
    simp [World.cell?, this] at h

theorem boxes_main (b off n cap : Nat) (w : World) (V0 V1 : Nat → Value) (hn0 : 0 < n) (hnc : n ≤ cap) (hcap : cap ≤ 9223372036854775807)
    (hc : ∀ i, i < n → w.cell? ⟨b, off + i * 2, none⟩ = some (V0 i) ∧ w.cell? ⟨b, off + i * 2 + 1, none⟩ = some (V1 i) ∧ (∃ x, V0 i = .int .i64 x) ∧ ∃ y, V1 i = .int .i64 y) :
    Calls Try.prog 5 #[.slice (some ⟨b, off, none⟩) n cap] w (Ret (.bool true) w) := by
  have hb : b < w.heap.size := cell_lt (hc 0 hn0).1
  have key : ∀ m, m ≤ n → ∀ i, i < m → w.cell? ⟨b, off + i * 2, none⟩ = some (.int .i64 (((List.range m).map fun i => (intOf (V0 i), intOf (V1 i))).getD i (0, 0)).1) ∧
      w.cell? ⟨b, off + i * 2 + 1, none⟩ = some (.int .i64 (((List.range m).map fun i => (intOf (V0 i), intOf (V1 i))).getD i (0, 0)).2) := by
    intro m hm i hi
    obtain ⟨h0, h1, ⟨x, hx⟩, y, hy⟩ := hc i (by omega)
    have : ((List.range m).map fun i => (intOf (V0 i), intOf (V1 i))).getD i (0, 0) = (x, y) := by
      rw [List.getD_eq_getElem?_getD, List.getElem?_map, List.getElem?_range hi]
      simp [hx, hy, intOf]
    rw [this, h0, h1, hx, hy]
    exact ⟨rfl, rfl⟩
  by_cases h : (n : Int) ≤ 50
  · exact law_boxes_posA _ b off n cap w h hn0 hnc hcap (Lib.hid (by simp)) hb (Lib.hid (key n (Nat.le_refl _)))
  · exact law_boxes_posB _ b off n cap w (by omega) (by omega) hnc hcap (Lib.hid (by simp)) hb (Lib.hid (key 50 (by omega)))

set_option maxRecDepth 100000 in
theorem boxes_lifted (os : Os) (started : os.Started) (H : Type) (enc : TypeId × Value → H) :
    ReturnsInHanded {} Try.checked os 5 .any (Rows.exactBoxesSpec.pre6 enc Try.prog Try.f5 Rows.exactBoxesRow.domain false) (Rows.exactBoxesSpec.post enc Try.prog Try.f5 false true false false) := by
  refine returnsInHanded_of_change (C := Try.checked) boxes_own started (by kernel_rfl) Try.func5
    (ChangeSpec.witness6 (enc := enc) (C := Try.checked) false ⟨#[], #[.slice none 0 0], []⟩ 8 (by kernel_rfl) (by kernel_rfl) (by kernel_rfl) (by kernel_rfl)) ?_
  intro W base args ds gs before hval0 hW hcnd _
  have hval : ∀ (j : Nat) t v, Try.f5.params[j]? = some t → args[j]? = some v → Value.okWide Try.prog W .any base t v := hval0
  have hW' := hW
  obtain ⟨p, q, hA0, hV, rfl, hfz, hnd⟩ := hW
  have hA : DataW.TrodAll enc Try.prog W 0 (fun _ => true) true Try.f5.params.toList args.toList ds p := hA0
  rw [Try.params5] at hA hval
  obtain ⟨v0, vs0, d0, ds0, p0, q0, hargs, rfl, rfl, h0, r0⟩ := trodAll_cons hA
  obtain ⟨rfl, rfl, rfl⟩ := trodAll_nil r0
  obtain ⟨av⟩ := args
  simp only at hargs
  subst hargs
  obtain ⟨rfl, rfl⟩ := trodVars_none hV
  obtain ⟨a, len, cap, rfl⟩ := okWide_slice Try.underlying40 (hval 0 40 v0 rfl rfl)
  have h0k := h0
  obtain ⟨fuel, hf⟩ := h0
  clear hA0 hval0
  simp only [List.append_nil] at hW'
  have hlt : ∀ x ∈ p0, x.block < W.heap.size := fun x hx => hW'.lt x hx
  have main : Calls Try.prog 5 #[.slice a len cap] W (Ret (.bool true) W) := by
    rcases open_slice_pairs Try.underlying40 Try.underlying23 boxes_cells rfl rfl (by kernel_rfl) (by kernel_rfl) hf with ⟨hcs, hx⟩ | ⟨a', len', cap', m, n, V0, V1, D0, D1, P0, P1, hcs, hb, hl, hm, hmm, hx, hi⟩
    · simp [Value.cells] at hcs
      obtain ⟨rfl, rfl, rfl⟩ := hcs
      exact law_boxes_nil none 0 W
    · simp [Value.cells] at hcs
      obtain ⟨rfl, rfl, rfl⟩ := hcs
      by_cases hz : len = 0
      · subst hz
        exact law_boxes_nil _ cap W
      · simp only [if_true] at hmm
        subst hmm
        obtain ⟨b, off, spot⟩ := a'
        have hs := World.cell?_spot (hi 0 (by omega)).1
        simp [Addr.add] at hs
        subst hs
        refine boxes_main b off len m W V0 V1 (by omega) hl (by unfold maxLen at hm; omega) fun i hil => ?_
        obtain ⟨c0, c1, t0, t1⟩ := hi i (by omega)
        rw [add_plain] at c0 c1
        obtain ⟨x, ex, _⟩ := DataW.trod_int Try.underlying3 t0
        obtain ⟨y, ey, _⟩ := DataW.trod_int Try.underlying3 t1
        simp at ex ey
        exact ⟨c0, by rw [Nat.add_assoc]; exact c1, ⟨x, ex⟩, y, ey⟩
  refine main.mono fun e W' ⟨he, hw⟩ => ?_
  subst he
  exact ⟨_, rfl, _, _, _, [], p0, [], hW', trodAll_mk1 (shut_bool Try.underlying4 true), trodAll_mk1 (Below.trod (by kernel_rfl) (by kernel_rfl) (of_decide_eq_true (by kernel_rfl)) h0k hw hlt), rfl, Below.frame hw _, fun h => by cases h⟩

theorem boxes_holds : Rows.ExactBoxesSaid :=
  OpenClaim.holds_of_wide 5 Try.f5 rfl rfl rfl rfl rfl rfl rfl ⟨rfl, rfl, rfl, rfl, rfl⟩ rfl rfl rfl rfl rfl (by kernel_rfl) Try.func5 (by kernel_rfl)
    (of_decide_eq_true (by kernel_rfl)) (by unfold Func.isWrapper; rw [if_neg (of_decide_eq_false (by kernel_rfl))]; exact ⟨rfl, rfl⟩)
    (fun os started H enc _ => boxes_lifted os started H enc)
end Go.Proofs.Ytkedcaplbdhmeaa
