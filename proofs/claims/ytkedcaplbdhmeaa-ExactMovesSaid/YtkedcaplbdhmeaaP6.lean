/-
  For every five points the law on moves, graticulelaw01.ExactMoves, returns true and leaves its arguments as they were. No condition.
-/
import Derived.Test.YtkedcaplbdhmeaaL6
import Derived.ProofKit
import Derived.Lib.SmallJoins
namespace Go.Proofs.Ytkedcaplbdhmeaa
open Go.ChangeShapes Go.WideShapes Go.ChangeAt Go.RowKit Go.Tab Go.Joins

theorem moves_own : ownKnob Try.prog.godebug = none := by kernel_rfl
theorem moves_cells : Try.prog.cellsOf 23 = 2 := by kernel_rfl

set_option maxRecDepth 100000 in
theorem moves_lifted (os : Os) (started : os.Started) (H : Type) (enc : TypeId × Value → H) :
    ReturnsInHanded {} Try.checked os 8 .any (Rows.exactMovesSpec.pre6 enc Try.prog Try.f8 Rows.exactMovesRow.domain false) (Rows.exactMovesSpec.post enc Try.prog Try.f8 false true false false) := by
  refine returnsInHanded_of_change (C := Try.checked) moves_own started (by kernel_rfl) Try.func8
    (ChangeSpec.witness6 (enc := enc) (C := Try.checked) false ⟨#[], #[.agg #[.int .i64 0, .int .i64 0], .agg #[.int .i64 0, .int .i64 0], .agg #[.int .i64 0, .int .i64 0], .agg #[.int .i64 0, .int .i64 0], .agg #[.int .i64 0, .int .i64 0]], []⟩ 8 (by kernel_rfl) (by kernel_rfl) (by kernel_rfl) (by kernel_rfl)) ?_
  intro W base args ds gs before hval0 hW hcnd _
  have hval : ∀ (j : Nat) t v, Try.f8.params[j]? = some t → args[j]? = some v → Value.okWide Try.prog W .any base t v := hval0
  have hW' := hW
  obtain ⟨p, q, hA0, hV, rfl, hfz, hnd⟩ := hW
  have hA : DataW.TrodAll enc Try.prog W 0 (fun _ => true) true Try.f8.params.toList args.toList ds p := hA0
  rw [Try.params8] at hA hval
  obtain ⟨v0, vs0, d0, ds0, p0, q0, hargs, rfl, rfl, h0, r0⟩ := trodAll_cons hA
  obtain ⟨v1, vs1, d1, ds1, p1, q1, rfl, rfl, rfl, h1, r1⟩ := trodAll_cons r0
  obtain ⟨v2, vs2, d2, ds2, p2, q2, rfl, rfl, rfl, h2, r2⟩ := trodAll_cons r1
  obtain ⟨v3, vs3, d3, ds3, p3, q3, rfl, rfl, rfl, h3, r3⟩ := trodAll_cons r2
  obtain ⟨v4, vs4, d4, ds4, p4, q4, rfl, rfl, rfl, h4, r4⟩ := trodAll_cons r3
  obtain ⟨rfl, rfl, rfl⟩ := trodAll_nil r4
  obtain ⟨av⟩ := args
  simp only at hargs
  subst hargs
  obtain ⟨rfl, rfl⟩ := trodVars_none hV
  obtain ⟨x0, y0, rx0, ry0, m0, rfl, rfl, rfl, hx0, hy0⟩ := open_agg2 Try.underlying23 (by kernel_rfl) moves_cells (hval 0 23 v0 rfl rfl) h0
  obtain ⟨a0, ea0, rfl, wa0⟩ := DataW.trod_int Try.underlying3 hx0
  obtain ⟨b0, eb0, rfl, wb0⟩ := DataW.trod_int Try.underlying3 hy0
  simp at ea0 eb0
  subst ea0 eb0
  obtain ⟨x1, y1, rx1, ry1, m1, rfl, rfl, rfl, hx1, hy1⟩ := open_agg2 Try.underlying23 (by kernel_rfl) moves_cells (hval 1 23 v1 rfl rfl) h1
  obtain ⟨a1, ea1, rfl, wa1⟩ := DataW.trod_int Try.underlying3 hx1
  obtain ⟨b1, eb1, rfl, wb1⟩ := DataW.trod_int Try.underlying3 hy1
  simp at ea1 eb1
  subst ea1 eb1
  obtain ⟨x2, y2, rx2, ry2, m2, rfl, rfl, rfl, hx2, hy2⟩ := open_agg2 Try.underlying23 (by kernel_rfl) moves_cells (hval 2 23 v2 rfl rfl) h2
  obtain ⟨a2, ea2, rfl, wa2⟩ := DataW.trod_int Try.underlying3 hx2
  obtain ⟨b2, eb2, rfl, wb2⟩ := DataW.trod_int Try.underlying3 hy2
  simp at ea2 eb2
  subst ea2 eb2
  obtain ⟨x3, y3, rx3, ry3, m3, rfl, rfl, rfl, hx3, hy3⟩ := open_agg2 Try.underlying23 (by kernel_rfl) moves_cells (hval 3 23 v3 rfl rfl) h3
  obtain ⟨a3, ea3, rfl, wa3⟩ := DataW.trod_int Try.underlying3 hx3
  obtain ⟨b3, eb3, rfl, wb3⟩ := DataW.trod_int Try.underlying3 hy3
  simp at ea3 eb3
  subst ea3 eb3
  obtain ⟨x4, y4, rx4, ry4, m4, rfl, rfl, rfl, hx4, hy4⟩ := open_agg2 Try.underlying23 (by kernel_rfl) moves_cells (hval 4 23 v4 rfl rfl) h4
  obtain ⟨a4, ea4, rfl, wa4⟩ := DataW.trod_int Try.underlying3 hx4
  obtain ⟨b4, eb4, rfl, wb4⟩ := DataW.trod_int Try.underlying3 hy4
  simp at ea4 eb4
  subst ea4 eb4
  clear hA0 hval0
  simp only [List.append_nil] at hW'
  refine (law_moves a0 b0 a1 b1 a2 b2 a3 b3 a4 b4 W).mono fun e W' ⟨he, hw⟩ => ?_
  subst he
  exact ⟨_, rfl, _, _, _, [], [], [], hW', trodAll_mk1 (shut_bool Try.underlying4 true), (trodAll_cons_mk (shut_agg2 (y0 := (.lit (.int .i64 a0), [])) (y1 := (.lit (.int .i64 b0), [])) Try.underlying23 (by kernel_rfl) moves_cells ⟨1, by simp [DataW.trod, Try.underlying3, wa0]⟩ ⟨1, by simp [DataW.trod, Try.underlying3, wb0]⟩) (trodAll_cons_mk (shut_agg2 (y0 := (.lit (.int .i64 a1), [])) (y1 := (.lit (.int .i64 b1), [])) Try.underlying23 (by kernel_rfl) moves_cells ⟨1, by simp [DataW.trod, Try.underlying3, wa1]⟩ ⟨1, by simp [DataW.trod, Try.underlying3, wb1]⟩) (trodAll_cons_mk (shut_agg2 (y0 := (.lit (.int .i64 a2), [])) (y1 := (.lit (.int .i64 b2), [])) Try.underlying23 (by kernel_rfl) moves_cells ⟨1, by simp [DataW.trod, Try.underlying3, wa2]⟩ ⟨1, by simp [DataW.trod, Try.underlying3, wb2]⟩) (trodAll_cons_mk (shut_agg2 (y0 := (.lit (.int .i64 a3), [])) (y1 := (.lit (.int .i64 b3), [])) Try.underlying23 (by kernel_rfl) moves_cells ⟨1, by simp [DataW.trod, Try.underlying3, wa3]⟩ ⟨1, by simp [DataW.trod, Try.underlying3, wb3]⟩) (trodAll_cons_mk (shut_agg2 (y0 := (.lit (.int .i64 a4), [])) (y1 := (.lit (.int .i64 b4), [])) Try.underlying23 (by kernel_rfl) moves_cells ⟨1, by simp [DataW.trod, Try.underlying3, wa4]⟩ ⟨1, by simp [DataW.trod, Try.underlying3, wb4]⟩) trodAll_mk0))))), rfl, Below.frame hw _, fun h => by cases h⟩

theorem moves_holds : Rows.ExactMovesSaid :=
  OpenClaim.holds_of_wide 8 Try.f8 rfl rfl rfl rfl rfl rfl rfl ⟨rfl, rfl, rfl, rfl, rfl⟩ rfl rfl rfl rfl rfl (by kernel_rfl) Try.func8 (by kernel_rfl)
    (of_decide_eq_true (by kernel_rfl)) (by unfold Func.isWrapper; rw [if_neg (of_decide_eq_false (by kernel_rfl))]; exact ⟨rfl, rfl⟩)
    (fun os started H enc _ => moves_lifted os started H enc)
end Go.Proofs.Ytkedcaplbdhmeaa
