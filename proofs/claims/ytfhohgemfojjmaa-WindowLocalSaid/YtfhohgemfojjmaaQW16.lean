/-
  For any tile and points the law on points by the numbers of a tile, graticulelaw20.WindowLocal, returns true and leaves its arguments as they were. No condition.
-/
import Derived.Test.YtfhohgemfojjmaaW16
import Derived.Test.YtfhohgemfojjmaaFr
import Derived.Test.YtfhohgemfojjmaaFl
namespace Go.Proofs.Ytfhohgemfojjmaa
open Go.ChangeShapes Go.WideShapes Go.ChangeAt Go.RowKit Go.Tab Go.Joins Go.Deep

theorem local_own : ownKnob Try.prog.godebug = none := by kernel_rfl

set_option maxRecDepth 100000 in
theorem local_lifted (os : Os) (started : os.Started) (H : Type) (enc : TypeId × Value → H) :
    ReturnsInHanded {} Try.checked os 5 .any (Rows.windowLocalSpec.pre6 enc Try.prog Try.f5 Rows.windowLocalRow.domain false) (Rows.windowLocalSpec.post enc Try.prog Try.f5 false true false false) := by
  refine returnsInHanded_of_change (C := Try.checked) local_own started (by kernel_rfl) Try.func5
    (ChangeSpec.witness6 (enc := enc) (C := Try.checked) false ⟨#[], #[.agg #[.int .i64 0, .int .i64 0, .int .i64 0], .slice none 0 0], []⟩ 8 (by kernel_rfl) (by kernel_rfl) (by kernel_rfl) (by kernel_rfl)) ?_
  intro W base args ds gs before hval0 hW hcnd _
  have hval : ∀ (j : Nat) t v, Try.f5.params[j]? = some t → args[j]? = some v → Value.okWide Try.prog W .any base t v := hval0
  have hW' := hW
  obtain ⟨p, q, hA0, hV, rfl, hfz, hnd⟩ := hW
  have hA : DataW.TrodAll enc Try.prog W 0 (fun _ => true) true Try.f5.params.toList args.toList ds p := hA0
  rw [Try.params5] at hA hval
  obtain ⟨v0, vs0, d0, ds0, p0, q0, hargs, rfl, rfl, h0, r0⟩ := trodAll_cons hA
  obtain ⟨v1, vs1, d1, ds1, p1, q1, rfl, rfl, rfl, h1, r1⟩ := trodAll_cons r0
  obtain ⟨rfl, rfl, rfl⟩ := trodAll_nil r1
  obtain ⟨av⟩ := args
  simp only at hargs
  subst hargs
  obtain ⟨rfl, rfl⟩ := trodVars_none hV
  obtain ⟨V0, hv0, wf0⟩ := flat_of (n := 9) 3 Try.underlying23 (by kernel_rfl) (by kernel_rfl) (hval 0 23 v0 rfl rfl) h0
  subst hv0
  obtain ⟨a1, n1, c1, V1, hv1, hnc1, hcap1, hno1, hc1, wf1⟩ := flats_of (n := 9) 2 (by decide) Try.underlying59 (by kernel_rfl) (by kernel_rfl) (hval 1 59 v1 rfl rfl) h1
  subst hv1
  clear hA0 hval0 hA
  simp only [List.append_nil] at hW'
  have hlt0 : ∀ x ∈ p0, x.block < W.heap.size := fun x hx => hW'.lt x (by simp [hx])
  have hlt1 : ∀ x ∈ p1, x.block < W.heap.size := fun x hx => hW'.lt x (by simp [hx])
  have main : Calls Try.prog 5 #[.agg ((List.range 3).map fun j => Value.int .i64 (V0 j)).toArray, .slice a1 n1 c1] W (Ret (.bool true) W) :=
    local_law (V0 0) (V0 1) (V0 2) a1 n1 c1 (ptsL V1 (min n1 40)) W hnc1 hno1 (pts_key hnc1 hno1 hc1 _ (by omega) (by omega)) (fun p hp => by
      obtain ⟨i, hi, rfl⟩ := List.mem_map.1 hp
      have hi' : i < n1 := by have := List.mem_range.1 hi; omega
      have f0 := wf1 i hi' 0 (by omega)
      have f1 := wf1 i hi' 1 (by omega)
      simp only [Lit.wf, IntKind.min, IntKind.max, IntKind.signed, IntKind.bits, Bool.and_eq_true, decide_eq_true_eq, if_true] at f0 f1
      simp only
      omega)
  refine main.mono fun e W' ⟨he, hw⟩ => ?_
  subst he
  exact ⟨_, rfl, _, _, _, [], _, [], hW', trodAll_mk1 (shut_bool Try.underlying4 true), (trodAll_cons_mk (Below.trod (by kernel_rfl) (by kernel_rfl) (of_decide_eq_true (by kernel_rfl)) h0 hw hlt0) (trodAll_mk1 (Below.trod (by kernel_rfl) (by kernel_rfl) (of_decide_eq_true (by kernel_rfl)) h1 hw hlt1))), rfl, Below.frame hw _, fun h => by cases h⟩

theorem local_holds : Rows.WindowLocalSaid :=
  OpenClaim.holds_of_wide 5 Try.f5 rfl rfl rfl rfl rfl rfl rfl ⟨rfl, rfl, rfl, rfl, rfl⟩ rfl rfl rfl rfl rfl (by kernel_rfl) Try.func5 (by kernel_rfl)
    (of_decide_eq_true (by kernel_rfl)) (by unfold Func.isWrapper; rw [if_neg (of_decide_eq_false (by kernel_rfl))]; exact ⟨rfl, rfl⟩)
    (fun os started H enc _ => local_lifted os started H enc)
end Go.Proofs.Ytfhohgemfojjmaa
