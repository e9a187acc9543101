/-
  For any bytes graticulelaw08.ProtoReads, returns true and leaves its argument as it was. No condition.
-/
import Derived.Test.YtdiciboaehdckaaD27
import Derived.Test.YtdiciboaehdckaaFr
import Derived.Test.YtdiciboaehdckaaFn
namespace Go.Proofs.Ytdiciboaehdckaa
open Go.ChangeShapes Go.WideShapes Go.ChangeAt Go.RowKit Go.Tab Go.Joins Go.Deep

theorem preads_own : ownKnob Try.prog.godebug = none := by kernel_rfl

set_option maxRecDepth 100000 in
theorem preads_lifted (os : Os) (started : os.Started) (H : Type) (enc : TypeId × Value → H) :
    ReturnsInHanded {} Try.checked os 4 .any (Rows.protoReadsSpec.pre6 enc Try.prog Try.f4 Rows.protoReadsRow.domain false) (Rows.protoReadsSpec.post enc Try.prog Try.f4 false true false false) := by
  refine returnsInHanded_of_change (C := Try.checked) preads_own started (by kernel_rfl) Try.func4
    (ChangeSpec.witness6 (enc := enc) (C := Try.checked) false ⟨#[], #[.slice none 0 0], []⟩ 8 (by kernel_rfl) (by kernel_rfl) (by kernel_rfl) (by kernel_rfl)) ?_
  intro W base args ds gs before hval0 hW hcnd _
  have hval : ∀ (j : Nat) t v, Try.f4.params[j]? = some t → args[j]? = some v → Value.okWide Try.prog W .any base t v := hval0
  have hW' := hW
  obtain ⟨p, q, hA0, hV, rfl, hfz, hnd⟩ := hW
  have hA : DataW.TrodAll enc Try.prog W 0 (fun _ => true) true Try.f4.params.toList args.toList ds p := hA0
  rw [Try.params4] at hA hval
  obtain ⟨v0, vs0, d0, ds0, p0, q0, hargs, rfl, rfl, h0, r0⟩ := trodAll_cons hA
  obtain ⟨rfl, rfl, rfl⟩ := trodAll_nil r0
  obtain ⟨av⟩ := args
  simp only at hargs
  subst hargs
  obtain ⟨rfl, rfl⟩ := trodVars_none hV
  obtain ⟨a0, n0, c0, V0, rfl, hnc0, hcap0, wf0, hno0, hc0⟩ := row_of Try.underlying24 Try.underlying5 (by kernel_rfl) (hval 0 24 v0 rfl rfl) h0
  clear hA0 hval0 hA
  simp only [List.append_nil] at hW'
  have hlt0 : ∀ x ∈ p0, x.block < W.heap.size := fun x hx => hW'.lt x (by simp [hx])
  have main : Calls Try.prog 4 #[.slice a0 n0 c0] W (Ret (.bool true) W) := by
    have key0 := nums_key u8_lt hnc0 wf0 hno0 hc0
    have hmx0 : c0 ≤ 9223372036854775807 := by unfold maxLen at hcap0; omega
    exact law_preads (numsL V0 (min n0 300)) a0 n0 c0 (min n0 300) W rfl hnc0 hmx0 (Lib.hid (numsL_len V0 (min n0 300))) (Lib.hid (key0 (min n0 300) (by omega) (by omega)).2) (Lib.hid (key0 (min n0 300) (by omega) (by omega)).1)
  refine main.mono fun e W' ⟨he, hw⟩ => ?_
  subst he
  exact ⟨_, rfl, _, _, _, [], _, [], hW', trodAll_mk1 (shut_bool Try.underlying4 true), (trodAll_mk1 (Below.trod (by kernel_rfl) (by kernel_rfl) (of_decide_eq_true (by kernel_rfl)) h0 hw hlt0)), rfl, Below.frame hw _, fun h => by cases h⟩

theorem preads_holds : Rows.ProtoReadsSaid :=
  OpenClaim.holds_of_wide 4 Try.f4 rfl rfl rfl rfl rfl rfl rfl ⟨rfl, rfl, rfl, rfl, rfl⟩ rfl rfl rfl rfl rfl (by kernel_rfl) Try.func4 (by kernel_rfl)
    (of_decide_eq_true (by kernel_rfl)) (by unfold Func.isWrapper; rw [if_neg (of_decide_eq_false (by kernel_rfl))]; exact ⟨rfl, rfl⟩)
    (fun os started H enc _ => preads_lifted os started H enc)
end Go.Proofs.Ytdiciboaehdckaa
