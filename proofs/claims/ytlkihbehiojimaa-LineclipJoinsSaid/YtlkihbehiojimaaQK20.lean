/-
  For any rows of points the law on rows put together, graticulelaw22.LineclipJoins, returns true and leaves its arguments as they were. No condition.
-/
import Derived.Test.YtlkihbehiojimaaK20
import Derived.Test.YtlkihbehiojimaaFr
import Derived.Test.YtlkihbehiojimaaFl
import Derived.Test.YtlkihbehiojimaaFg
namespace Go.Proofs.Ytlkihbehiojimaa
open Go.ChangeShapes Go.WideShapes Go.ChangeAt Go.RowKit Go.Tab Go.Joins Go.Deep

theorem joins_own : ownKnob Try.prog.godebug = none := by kernel_rfl

set_option maxRecDepth 100000 in
theorem joins_lifted (os : Os) (started : os.Started) (H : Type) (enc : TypeId × Value → H) :
    ReturnsInHanded {} Try.checked os 4 .any (Rows.lineclipJoinsSpec.pre6 enc Try.prog Try.f4 Rows.lineclipJoinsRow.domain false) (Rows.lineclipJoinsSpec.post enc Try.prog Try.f4 false true false false) := by
  refine returnsInHanded_of_change (C := Try.checked) joins_own started (by kernel_rfl) Try.func4
    (ChangeSpec.witness6 (enc := enc) (C := Try.checked) false ⟨#[], #[.slice none 0 0], []⟩ 8 (by kernel_rfl) (by kernel_rfl) (by kernel_rfl) (by kernel_rfl)) ?_
  intro W base args ds gs before hval0 hW hcnd _
  have hval : ∀ (j : Nat) t v, Try.f4.params[j]? = some t → args[j]? = some v → Value.okWide Try.prog W .any base t v := hval0
  have hW' := hW
  obtain ⟨p, q, hA0, hV, rfl, hfz, hnd⟩ := hW
  have hA : DataW.TrodAll enc Try.prog W 0 (fun _ => true) true Try.f4.params.toList args.toList ds p := hA0
  rw [Try.params4] at hA hval
  obtain ⟨v0, vs0, d0, ds0, p0, q0, hargs, rfl, rfl, h0, r0⟩ := trodAll_cons hA
  obtain ⟨rfl, rfl, rfl⟩ := trodAll_nil r0
  obtain ⟨av⟩ := args
  simp only at hargs
  subst hargs
  obtain ⟨rfl, rfl⟩ := trodVars_none hV
  obtain ⟨a0, n0, c0, A0, N0, C0, V0, hv0, hnc0, hcap0, hno0, hc0, wf0⟩ := rows_of (n := 9) 2 (by decide) Try.underlying38 Try.underlying22 (by kernel_rfl) (by kernel_rfl) (by kernel_rfl) (hval 0 38 v0 rfl rfl) h0
  subst hv0
  clear hA0 hval0 hA
  simp only [List.append_nil] at hW'
  have hlt0 : ∀ x ∈ p0, x.block < W.heap.size := fun x hx => hW'.lt x (by simp [hx])
  have main : Calls Try.prog 4 #[.slice a0 n0 c0] W (Ret (.bool true) W) :=
    joins_law a0 n0 c0 A0 N0 C0 (fun i => ptsL (V0 i) (min (N0 i) 40)) W hnc0 hc0 (fun i hi => ⟨(wf0 i hi).1, (wf0 i hi).2.2.1, pts_key (wf0 i hi).1 (wf0 i hi).2.2.1 (wf0 i hi).2.2.2.1 _ (by omega) (by omega)⟩) (fun i => ptsL_len _ _)
  refine main.mono fun e W' ⟨he, hw⟩ => ?_
  subst he
  exact ⟨_, rfl, _, _, _, [], _, [], hW', trodAll_mk1 (shut_bool Try.underlying4 true), (trodAll_mk1 (Below.trod (by kernel_rfl) (by kernel_rfl) (of_decide_eq_true (by kernel_rfl)) h0 hw hlt0)), rfl, Below.frame hw _, fun h => by cases h⟩

theorem joins_holds : Rows.LineclipJoinsSaid :=
  OpenClaim.holds_of_wide 4 Try.f4 rfl rfl rfl rfl rfl rfl rfl ⟨rfl, rfl, rfl, rfl, rfl⟩ rfl rfl rfl rfl rfl (by kernel_rfl) Try.func4 (by kernel_rfl)
    (of_decide_eq_true (by kernel_rfl)) (by unfold Func.isWrapper; rw [if_neg (of_decide_eq_false (by kernel_rfl))]; exact ⟨rfl, rfl⟩)
    (fun os started H enc _ => joins_lifted os started H enc)
end Go.Proofs.Ytlkihbehiojimaa
