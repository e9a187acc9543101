/-
  For any points, rows and numbers the law on things in order, graticulelaw04.OrderSorts, returns true and leaves its arguments as they were. No condition.
-/
import Derived.Test.YtigbojdnaeaojaaO25
import Derived.Test.YtigbojdnaeaojaaFr
import Derived.Test.YtigbojdnaeaojaaFp
import Derived.Test.YtigbojdnaeaojaaFg
namespace Go.Proofs.Ytigbojdnaeaojaa
open Go.ChangeShapes Go.WideShapes Go.ChangeAt Go.RowKit Go.Tab Go.Joins Go.Deep

theorem sorts_own : ownKnob Try.prog.godebug = none := by kernel_rfl

set_option maxRecDepth 100000 in
theorem sorts_lifted (os : Os) (started : os.Started) (H : Type) (enc : TypeId × Value → H) :
    ReturnsInHanded {} Try.checked os 3 .any (Rows.orderSortsSpec.pre6 enc Try.prog Try.f3 Rows.orderSortsRow.domain false) (Rows.orderSortsSpec.post enc Try.prog Try.f3 false true false false) := by
  refine returnsInHanded_of_change (C := Try.checked) sorts_own started (by kernel_rfl) Try.func3
    (ChangeSpec.witness6 (enc := enc) (C := Try.checked) false ⟨#[], #[.slice none 0 0, .slice none 0 0, .slice none 0 0], []⟩ 8 (by kernel_rfl) (by kernel_rfl) (by kernel_rfl) (by kernel_rfl)) ?_
  intro W base args ds gs before hval0 hW hcnd _
  have hval : ∀ (j : Nat) t v, Try.f3.params[j]? = some t → args[j]? = some v → Value.okWide Try.prog W .any base t v := hval0
  have hW' := hW
  obtain ⟨p, q, hA0, hV, rfl, hfz, hnd⟩ := hW
  have hA : DataW.TrodAll enc Try.prog W 0 (fun _ => true) true Try.f3.params.toList args.toList ds p := hA0
  rw [Try.params3] at hA hval
  obtain ⟨v0, vs0, d0, ds0, p0, q0, hargs, rfl, rfl, h0, r0⟩ := trodAll_cons hA
  obtain ⟨v1, vs1, d1, ds1, p1, q1, rfl, rfl, rfl, h1, r1⟩ := trodAll_cons r0
  obtain ⟨v2, vs2, d2, ds2, p2, q2, rfl, rfl, rfl, h2, r2⟩ := trodAll_cons r1
  obtain ⟨rfl, rfl, rfl⟩ := trodAll_nil r2
  obtain ⟨av⟩ := args
  simp only at hargs
  subst hargs
  obtain ⟨rfl, rfl⟩ := trodVars_none hV
  obtain ⟨a0, n0, c0, V0, U0, rfl, hnc0, hcap0, hno0, hc0⟩ := pts_of (hval 0 22 v0 rfl rfl) h0
  obtain ⟨a1, n1, c1, A1, N1, C1, V1, hv1, hnc1, hcap1, hno1, hc1, wf1⟩ := rows_of (n := 9) 1 (by decide) Try.underlying23 Try.underlying24 (by kernel_rfl) (by kernel_rfl) (by kernel_rfl) (hval 1 23 v1 rfl rfl) h1
  subst hv1
  obtain ⟨a2, n2, c2, V2, rfl, hnc2, hcap2, wf2, hno2, hc2⟩ := row_of Try.underlying24 Try.underlying3 (by kernel_rfl) (hval 2 24 v2 rfl rfl) h2
  clear hA0 hval0 hA
  simp only [List.append_nil] at hW'
  have hlt0 : ∀ x ∈ p0, x.block < W.heap.size := fun x hx => hW'.lt x (by simp [hx])
  have hlt1 : ∀ x ∈ p1, x.block < W.heap.size := fun x hx => hW'.lt x (by simp [hx])
  have hlt2 : ∀ x ∈ p2, x.block < W.heap.size := fun x hx => hW'.lt x (by simp [hx])
  have main : Calls Try.prog 3 #[.slice a0 n0 c0, .slice a1 n1 c1, .slice a2 n2 c2] W (Ret (.bool true) W) := by
    exact law_sorts (ptsL V0 U0 (min n0 60)) (intsL V2 (min n2 60)) (fun i => intsL (fun j => V1 i j 0) (min (N1 i) 20)) a0 a1 a2 n0 c0 n1 c1 n2 c2 (min n0 60) (min n1 60) (min n2 60) A1 N1 C1 W rfl rfl rfl hnc0 hnc1 hnc2 (by unfold maxLen at hcap0; omega) (by unfold maxLen at hcap1; omega) (by unfold maxLen at hcap2; omega)
      (Lib.hid (ptsL_len _ _ _)) (Lib.hid (intsL_len _ _)) (Lib.hid (fun i => intsL_len _ _)) (Lib.hid (pts_key hnc0 hno0 hc0 _ (by omega) (by omega))) (Lib.hid (ints_key hnc2 hno2 hc2 _ (by omega) (by omega)))
      (Lib.hid (by rcases hc1 with h | ⟨b, off, ha, hb, h⟩
                   · exact .inl (by omega)
                   · exact .inr ⟨b, off, ha, hb, fun i hi => h i (by omega)⟩))
      (Lib.hid (fun i hi => by
        obtain ⟨g1, g2, g3, g4, -⟩ := wf1 i (by omega)
        refine ⟨g1, by unfold maxLen at g2; omega, ints_key (V := fun j => V1 i j 0) g1 g3 ?_ _ (by omega) (by omega)⟩
        rcases g4 with h | ⟨b, off, ha, hb, h⟩
        · exact .inl h
        · exact .inr ⟨b, off, ha, hb, fun j hj => by have := h j hj 0 (by omega); simpa using this⟩))
  refine main.mono fun e W' ⟨he, hw⟩ => ?_
  subst he
  exact ⟨_, rfl, _, _, _, [], _, [], hW', trodAll_mk1 (shut_bool Try.underlying4 true), (trodAll_cons_mk (Below.trod (by kernel_rfl) (by kernel_rfl) (of_decide_eq_true (by kernel_rfl)) h0 hw hlt0) (trodAll_cons_mk (Below.trod (by kernel_rfl) (by kernel_rfl) (of_decide_eq_true (by kernel_rfl)) h1 hw hlt1) (trodAll_mk1 (Below.trod (by kernel_rfl) (by kernel_rfl) (of_decide_eq_true (by kernel_rfl)) h2 hw hlt2)))), rfl, Below.frame hw _, fun h => by cases h⟩

theorem sorts_holds : Rows.OrderSortsSaid :=
  OpenClaim.holds_of_wide 3 Try.f3 rfl rfl rfl rfl rfl rfl rfl ⟨rfl, rfl, rfl, rfl, rfl⟩ rfl rfl rfl rfl rfl (by kernel_rfl) Try.func3 (by kernel_rfl)
    (of_decide_eq_true (by kernel_rfl)) (by unfold Func.isWrapper; rw [if_neg (of_decide_eq_false (by kernel_rfl))]; exact ⟨rfl, rfl⟩)
    (fun os started H enc _ => sorts_lifted os started H enc)
end Go.Proofs.Ytigbojdnaeaojaa
