/-
  For any numbers the law on their bytes, graticulelaw07.VarintBytes, returns true and leaves its arguments as they were. No condition.
-/
import Derived.Test.YtfhdljobndamgaaV14
import Derived.Test.YtfhdljobndamgaaFr
import Derived.Test.YtfhdljobndamgaaFn
namespace Go.Proofs.Ytfhdljobndamgaa
open Go.ChangeShapes Go.WideShapes Go.ChangeAt Go.RowKit Go.Tab Go.Joins Go.Deep

theorem bytes_own : ownKnob Try.prog.godebug = none := by kernel_rfl

set_option maxRecDepth 100000 in
theorem bytes_lifted (os : Os) (started : os.Started) (H : Type) (enc : TypeId × Value → H) :
    ReturnsInHanded {} Try.checked os 3 .any (Rows.varintBytesSpec.pre6 enc Try.prog Try.f3 Rows.varintBytesRow.domain false) (Rows.varintBytesSpec.post enc Try.prog Try.f3 false true false false) := by
  refine returnsInHanded_of_change (C := Try.checked) bytes_own started (by kernel_rfl) Try.func3
    (ChangeSpec.witness6 (enc := enc) (C := Try.checked) false ⟨#[], #[.slice none 0 0, .int .i64 0, .int .u64 0], []⟩ 8 (by kernel_rfl) (by kernel_rfl) (by kernel_rfl) (by kernel_rfl)) ?_
  intro W base args ds gs before hval0 hW hcnd _
  have hval : ∀ (j : Nat) t v, Try.f3.params[j]? = some t → args[j]? = some v → Value.okWide Try.prog W .any base t v := hval0
  have hW' := hW
  obtain ⟨p, q, hA0, hV, rfl, hfz, hnd⟩ := hW
  have hA : DataW.TrodAll enc Try.prog W 0 (fun _ => true) true Try.f3.params.toList args.toList ds p := hA0
  rw [Try.params3] at hA hval
  obtain ⟨v0, vs0, d0, ds0, p0, q0, hargs, rfl, rfl, h0, r0⟩ := trodAll_cons hA
  obtain ⟨v1, vs1, d1, ds1, p1, q1, rfl, rfl, rfl, h1, r1⟩ := trodAll_cons r0
  obtain ⟨v2, vs2, d2, ds2, p2, q2, rfl, rfl, rfl, h2, r2⟩ := trodAll_cons r1
  obtain ⟨rfl, rfl, rfl⟩ := trodAll_nil r2
  obtain ⟨av⟩ := args
  simp only at hargs
  subst hargs
  obtain ⟨rfl, rfl⟩ := trodVars_none hV
  obtain ⟨a0, n0, c0, V0, rfl, hnc0, hcap0, wf0, hno0, hc0⟩ := row_of Try.underlying22 Try.underlying23 (by kernel_rfl) (hval 0 22 v0 rfl rfl) h0
  obtain ⟨x1, rfl, wx1⟩ := lit_of Try.underlying3 (hval 1 3 v1 rfl rfl) h1
  obtain ⟨x2, rfl, wx2⟩ := lit_of Try.underlying23 (hval 2 23 v2 rfl rfl) h2
  clear hA0 hval0 hA
  simp only [List.append_nil] at hW'
  have hlt0 : ∀ x ∈ p0, x.block < W.heap.size := fun x hx => hW'.lt x (by simp [hx])
  have hlt1 : ∀ x ∈ p1, x.block < W.heap.size := fun x hx => hW'.lt x (by simp [hx])
  have hlt2 : ∀ x ∈ p2, x.block < W.heap.size := fun x hx => hW'.lt x (by simp [hx])
  have main : Calls Try.prog 3 #[.slice a0 n0 c0, .int .i64 x1, .int .u64 x2] W (Ret (.bool true) W) := by
    have key0 := nums_key u64_lt hnc0 wf0 hno0 hc0
    have hmx0 : c0 ≤ 9223372036854775807 := by unfold maxLen at hcap0; omega
    have z := wf_i64 wx1
    have u := wf_u64 wx2
    by_cases h : (n0 : Int) ≤ 50
    · exact law_bytesA _ a0 n0 c0 x1 x2 W h hnc0 hmx0 (Lib.hid (numsL_len V0 n0)) (Lib.hid (key0 n0 (Nat.le_refl _) (by omega)).2) (Lib.hid (key0 n0 (Nat.le_refl _) (by omega)).1) z.1 z.2 u.1 u.2
    · exact law_bytesB _ a0 n0 c0 x1 x2 W h hnc0 hmx0 (Lib.hid (numsL_len V0 50)) (Lib.hid (key0 50 (by omega) (by omega)).2) (Lib.hid (key0 50 (by omega) (by omega)).1) z.1 z.2 u.1 u.2
  refine main.mono fun e W' ⟨he, hw⟩ => ?_
  subst he
  exact ⟨_, rfl, _, _, _, [], _, [], hW', trodAll_mk1 (shut_bool Try.underlying4 true), (trodAll_cons_mk (Below.trod (by kernel_rfl) (by kernel_rfl) (of_decide_eq_true (by kernel_rfl)) h0 hw hlt0) (trodAll_cons_mk (Below.trod (by kernel_rfl) (by kernel_rfl) (of_decide_eq_true (by kernel_rfl)) h1 hw hlt1) (trodAll_mk1 (Below.trod (by kernel_rfl) (by kernel_rfl) (of_decide_eq_true (by kernel_rfl)) h2 hw hlt2)))), rfl, Below.frame hw _, fun h => by cases h⟩

theorem bytes_holds : Rows.VarintBytesSaid :=
  OpenClaim.holds_of_wide 3 Try.f3 rfl rfl rfl rfl rfl rfl rfl ⟨rfl, rfl, rfl, rfl, rfl⟩ rfl rfl rfl rfl rfl (by kernel_rfl) Try.func3 (by kernel_rfl)
    (of_decide_eq_true (by kernel_rfl)) (by unfold Func.isWrapper; rw [if_neg (of_decide_eq_false (by kernel_rfl))]; exact ⟨rfl, rfl⟩)
    (fun os started H enc _ => bytes_lifted os started H enc)
end Go.Proofs.Ytfhdljobndamgaa
