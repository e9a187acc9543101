/-
  For any numbers the law on sizes and rows, graticulelaw07.VarintOrders, returns true and leaves its arguments as they were. No condition.
-/
import Derived.Test.YtfhdljobndamgaaV15
import Derived.Test.YtfhdljobndamgaaFr
import Derived.Test.YtfhdljobndamgaaFn
namespace Go.Proofs.Ytfhdljobndamgaa
open Go.ChangeShapes Go.WideShapes Go.ChangeAt Go.RowKit Go.Tab Go.Joins Go.Deep

theorem orders_own : ownKnob Try.prog.godebug = none := by kernel_rfl

set_option maxRecDepth 100000 in
theorem orders_lifted (os : Os) (started : os.Started) (H : Type) (enc : TypeId × Value → H) :
    ReturnsInHanded {} Try.checked os 5 .any (Rows.varintOrdersSpec.pre6 enc Try.prog Try.f5 Rows.varintOrdersRow.domain false) (Rows.varintOrdersSpec.post enc Try.prog Try.f5 false true false false) := by
  refine returnsInHanded_of_change (C := Try.checked) orders_own started (by kernel_rfl) Try.func5
    (ChangeSpec.witness6 (enc := enc) (C := Try.checked) false ⟨#[], #[.slice none 0 0, .slice none 0 0, .int .u64 0, .int .u64 0, .int .i64 0], []⟩ 8 (by kernel_rfl) (by kernel_rfl) (by kernel_rfl) (by kernel_rfl)) ?_
  intro W base args ds gs before hval0 hW hcnd _
  have hval : ∀ (j : Nat) t v, Try.f5.params[j]? = some t → args[j]? = some v → Value.okWide Try.prog W .any base t v := hval0
  have hW' := hW
  obtain ⟨p, q, hA0, hV, rfl, hfz, hnd⟩ := hW
  have hA : DataW.TrodAll enc Try.prog W 0 (fun _ => true) true Try.f5.params.toList args.toList ds p := hA0
  rw [Try.params5] at hA hval
  obtain ⟨v0, vs0, d0, ds0, p0, q0, hargs, rfl, rfl, h0, r0⟩ := trodAll_cons hA
  obtain ⟨v1, vs1, d1, ds1, p1, q1, rfl, rfl, rfl, h1, r1⟩ := trodAll_cons r0
  obtain ⟨v2, vs2, d2, ds2, p2, q2, rfl, rfl, rfl, h2, r2⟩ := trodAll_cons r1
  obtain ⟨v3, vs3, d3, ds3, p3, q3, rfl, rfl, rfl, h3, r3⟩ := trodAll_cons r2
  obtain ⟨v4, vs4, d4, ds4, p4, q4, rfl, rfl, rfl, h4, r4⟩ := trodAll_cons r3
  obtain ⟨rfl, rfl, rfl⟩ := trodAll_nil r4
  obtain ⟨av⟩ := args
  simp only at hargs
  subst hargs
  obtain ⟨rfl, rfl⟩ := trodVars_none hV
  obtain ⟨a0, n0, c0, V0, rfl, hnc0, hcap0, wf0, hno0, hc0⟩ := row_of Try.underlying22 Try.underlying23 (by kernel_rfl) (hval 0 22 v0 rfl rfl) h0
  obtain ⟨a1, n1, c1, V1, rfl, hnc1, hcap1, wf1, hno1, hc1⟩ := row_of Try.underlying22 Try.underlying23 (by kernel_rfl) (hval 1 22 v1 rfl rfl) h1
  obtain ⟨x2, rfl, wx2⟩ := lit_of Try.underlying23 (hval 2 23 v2 rfl rfl) h2
  obtain ⟨x3, rfl, wx3⟩ := lit_of Try.underlying23 (hval 3 23 v3 rfl rfl) h3
  obtain ⟨x4, rfl, wx4⟩ := lit_of Try.underlying3 (hval 4 3 v4 rfl rfl) h4
  clear hA0 hval0 hA
  simp only [List.append_nil] at hW'
  have hlt0 : ∀ x ∈ p0, x.block < W.heap.size := fun x hx => hW'.lt x (by simp [hx])
  have hlt1 : ∀ x ∈ p1, x.block < W.heap.size := fun x hx => hW'.lt x (by simp [hx])
  have hlt2 : ∀ x ∈ p2, x.block < W.heap.size := fun x hx => hW'.lt x (by simp [hx])
  have hlt3 : ∀ x ∈ p3, x.block < W.heap.size := fun x hx => hW'.lt x (by simp [hx])
  have hlt4 : ∀ x ∈ p4, x.block < W.heap.size := fun x hx => hW'.lt x (by simp [hx])
  have main : Calls Try.prog 5 #[.slice a0 n0 c0, .slice a1 n1 c1, .int .u64 x2, .int .u64 x3, .int .i64 x4] W (Ret (.bool true) W) := by
    have key0 := nums_key u64_lt hnc0 wf0 hno0 hc0
    have hmx0 : c0 ≤ 9223372036854775807 := by unfold maxLen at hcap0; omega
    have key1 := nums_key u64_lt hnc1 wf1 hno1 hc1
    have hmx1 : c1 ≤ 9223372036854775807 := by unfold maxLen at hcap1; omega
    have u2 := wf_u64 wx2
    have u3 := wf_u64 wx3
    rw [show x2 = ((x2.toNat : Nat) : Int) by omega, show x3 = ((x3.toNat : Nat) : Int) by omega]
    by_cases h0' : (n0 : Int) ≤ 30
    · by_cases h1' : (n1 : Int) ≤ 30
      · exact law_ordersAA _ _ a0 a1 n0 c0 n1 c1 x2.toNat x3.toNat x4 W h0' h1' hnc0 hnc1 hmx0 hmx1 (Lib.hid (numsL_len V0 n0)) (Lib.hid (numsL_len V1 n1)) (Lib.hid (key0 n0 (Nat.le_refl _) (by omega)).2) (Lib.hid (key1 n1 (Nat.le_refl _) (by omega)).2) (Lib.hid (key0 n0 (Nat.le_refl _) (by omega)).1) (Lib.hid (key1 n1 (Nat.le_refl _) (by omega)).1) (by omega) (by omega)
      · exact law_ordersAB _ _ a0 a1 n0 c0 n1 c1 x2.toNat x3.toNat x4 W h0' h1' hnc0 hnc1 hmx0 hmx1 (Lib.hid (numsL_len V0 n0)) (Lib.hid (numsL_len V1 30)) (Lib.hid (key0 n0 (Nat.le_refl _) (by omega)).2) (Lib.hid (key1 30 (by omega) (by omega)).2) (Lib.hid (key0 n0 (Nat.le_refl _) (by omega)).1) (Lib.hid (key1 30 (by omega) (by omega)).1) (by omega) (by omega)
    · by_cases h1' : (n1 : Int) ≤ 30
      · exact law_ordersBA _ _ a0 a1 n0 c0 n1 c1 x2.toNat x3.toNat x4 W h0' h1' hnc0 hnc1 hmx0 hmx1 (Lib.hid (numsL_len V0 30)) (Lib.hid (numsL_len V1 n1)) (Lib.hid (key0 30 (by omega) (by omega)).2) (Lib.hid (key1 n1 (Nat.le_refl _) (by omega)).2) (Lib.hid (key0 30 (by omega) (by omega)).1) (Lib.hid (key1 n1 (Nat.le_refl _) (by omega)).1) (by omega) (by omega)
      · exact law_ordersBB _ _ a0 a1 n0 c0 n1 c1 x2.toNat x3.toNat x4 W h0' h1' hnc0 hnc1 hmx0 hmx1 (Lib.hid (numsL_len V0 30)) (Lib.hid (numsL_len V1 30)) (Lib.hid (key0 30 (by omega) (by omega)).2) (Lib.hid (key1 30 (by omega) (by omega)).2) (Lib.hid (key0 30 (by omega) (by omega)).1) (Lib.hid (key1 30 (by omega) (by omega)).1) (by omega) (by omega)
  refine main.mono fun e W' ⟨he, hw⟩ => ?_
  subst he
  exact ⟨_, rfl, _, _, _, [], _, [], hW', trodAll_mk1 (shut_bool Try.underlying4 true), (trodAll_cons_mk (Below.trod (by kernel_rfl) (by kernel_rfl) (of_decide_eq_true (by kernel_rfl)) h0 hw hlt0) (trodAll_cons_mk (Below.trod (by kernel_rfl) (by kernel_rfl) (of_decide_eq_true (by kernel_rfl)) h1 hw hlt1) (trodAll_cons_mk (Below.trod (by kernel_rfl) (by kernel_rfl) (of_decide_eq_true (by kernel_rfl)) h2 hw hlt2) (trodAll_cons_mk (Below.trod (by kernel_rfl) (by kernel_rfl) (of_decide_eq_true (by kernel_rfl)) h3 hw hlt3) (trodAll_mk1 (Below.trod (by kernel_rfl) (by kernel_rfl) (of_decide_eq_true (by kernel_rfl)) h4 hw hlt4)))))), rfl, Below.frame hw _, fun h => by cases h⟩

theorem orders_holds : Rows.VarintOrdersSaid :=
  OpenClaim.holds_of_wide 5 Try.f5 rfl rfl rfl rfl rfl rfl rfl ⟨rfl, rfl, rfl, rfl, rfl⟩ rfl rfl rfl rfl rfl (by kernel_rfl) Try.func5 (by kernel_rfl)
    (of_decide_eq_true (by kernel_rfl)) (by unfold Func.isWrapper; rw [if_neg (of_decide_eq_false (by kernel_rfl))]; exact ⟨rfl, rfl⟩)
    (fun os started H enc _ => orders_lifted os started H enc)
end Go.Proofs.Ytfhdljobndamgaa
