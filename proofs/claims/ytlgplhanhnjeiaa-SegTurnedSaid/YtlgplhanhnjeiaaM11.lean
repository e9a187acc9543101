/-
  Layer 2: the law SegTurned.
-/
import Derived.Test.YtlgplhanhnjeiaaM10
import Derived.Test.YtlgplhanhnjeiaaS13
import Derived.Test.YtlgplhanhnjeiaaTQ
namespace Go.Proofs.Ytlgplhanhnjeiaa
open Go.RowKit Go.Tab Go.Sort

set_option maxRecDepth 100000 in
set_option maxHeartbeats 8000000 in
theorem law_turned (a b c d : Pt) (xs ys : List Int) (al am : Option Addr) (kx pl ky pm lx ly : Nat) (w : World)
    (hx0 : lx = min kx 20) (hy0 : ly = min ky 20) (hkx : kx ≤ pl) (hky : ky ≤ pm) (hcx : pl ≤ 9223372036854775807) (hcy : pm ≤ 9223372036854775807)
    (Hx : Hid (xs.length = lx)) (Hy : Hid (ys.length = ly)) (IX : Hid (IntsAt w (.slice al lx pl) xs)) (IY : Hid (IntsAt w (.slice am ly pm) ys)) :
    Calls Try.prog 5 #[pp a, pp b, pp c, pp d, .slice al kx pl, .slice am ky pm] w (Ret (.bool true) w) := by
  obtain ⟨L, hL, hLn⟩ := cuts_list a b xs ys
  have HCL := Lib.hid (fun w1 (hg : Grows w w1) => Cuts_is hL (.slice al lx pl) (.slice am ly pm) w1 (IX.out.grows hg) (IY.out.grows hg) (by rw [Hx.out]; omega) (by rw [Hy.out]; omega))
  have HCR := Lib.hid (fun w1 (hg : Grows w w1) => Cuts_is hL.rev (.slice al lx pl) (.slice am ly pm) w1 (IX.out.grows hg) (IY.out.grows hg) (by rw [Hx.out]; omega) (by rw [Hy.out]; omega))
  have HLN : Hid (L.length ≤ 40) := Lib.hid (by have := Hx.out; have := Hy.out; omega)
  have C1 := Lib.hid (fun w => class_any a b c d w)
  have C2 := Lib.hid (fun w => class_any c d a b w)
  have C3 := Lib.hid (fun w => class_any b a c d w)
  rw [cls_swap a b c d] at C2
  rw [cls_flip a b c d] at C3
  generalize clsP a b c d = q at C1 C2 C3
  obtain ⟨n, e⟩ := q
  clear hL hLn
  have m1 : min (kx : Int) 20 = (lx : Int) := by omega
  have m2 : min (ky : Int) 20 = (ly : Int) := by omega
  have b1 : lx ≤ pl := by omega
  have b2 : ly ≤ pm := by omega
  have z1 : lx ≤ 20 := by omega
  have z2 : ly ≤ 20 := by omega
  clear hx0 hy0
  obtain ⟨ax, ay⟩ := a
  obtain ⟨bx, b_y⟩ := b
  obtain ⟨cx, cy⟩ := c
  obtain ⟨dx, dy⟩ := d
  unfold pp at C1 C2 C3 HCL HCR ⊢
  simp only at C1 C2 C3 HCL HCR ⊢
  go_enter Try.func5, Try.ntmps5
  go_wp2_with fail
  refine (C1.out _).mono ?_
  rintro _ wq ⟨rfl, hg⟩
  have HF : Hid (∀ w', Grows wq w' → _) := Lib.hid (fun w' (hg' : Grows wq w') => by obtain ⟨h0, h1, h2, h3⟩ := box4 (hg.trans hg'); exact And.intro (cells2 h0) (And.intro (cells2 h1) (And.intro (cells2 h2) (cells2 h3))))
  have G := Lib.hid (((((Grows.refl w).al _).al _).al _).al _ |>.trans hg)
  clear hg C1
  obtain ⟨⟨a0, a1, -, -⟩, ⟨b0, b1, -, -⟩, ⟨c0, c1, -, -⟩, ⟨d0, d1, -, -⟩⟩ := HF.out wq (Grows.refl _)
  go_wp2_with fail
  refine (C2.out _).mono ?_
  rintro _ w2 ⟨rfl, hg⟩
  have KG := Lib.hid hg
  clear a0 a1 b0 b1 c0 c1 d0 d1
  clear hg
  obtain ⟨⟨a0, a1, -, -⟩, ⟨b0, b1, -, -⟩, ⟨c0, c1, -, -⟩, ⟨d0, d1, -, -⟩⟩ := HF.out w2 KG.out
  go_wp2_with fail
  refine (C3.out _).mono ?_
  rintro _ w3 ⟨rfl, hg⟩
  have KG := Lib.hid (KG.out.trans hg)
  clear a0 a1 b0 b1 c0 c1 d0 d1
  clear hg C2 C3
  go_wp2_with fail
  go_quiet (fail)
  rename_i nq
  obtain ⟨w4, hw4⟩ : ∃ w4, w4 = w3.drewN nq := ⟨_, rfl⟩
  rw [← hw4]
  have G := Lib.hid (G.out.trans (KG.out.trans (show Grows w3 w4 by rw [hw4]; exact ⟨rfl, rfl, rfl, Nat.le_refl _, fun _ _ => rfl⟩)))
  have KG := Lib.hid (KG.out.trans (show Grows w3 w4 by rw [hw4]; exact ⟨rfl, rfl, rfl, Nat.le_refl _, fun _ _ => rfl⟩))
  clear hw4 m1 m2 hkx hky
  go_wp2_with fail
  refine wp_region_tab 10 (by kernel_rfl) (by kernel_rfl) ?_
  intro w0 hw0 hg1 hg1'
  simp only [List.take_succ_cons, List.take_zero, List.drop_succ_cons, List.drop_zero]
  refine tab_val (.agg #[.int .i64 ax, .int .i64 ay]) (fun r w1 hr hg hA => by obtain ⟨q0, -⟩ := hA; have q0e : r (.tmp 6) = .pointer (some ⟨w.heap.size, 0, none⟩) := q0; have hc := HF.out w1 ((KG.out.trans hg1).trans hg); exact ⟨rfl, by simp [go_sem, q0e, hc]⟩) ?_
  refine tab_val (.agg #[.int .i64 bx, .int .i64 b_y]) (fun r w1 hr hg hA => by obtain ⟨q0, -⟩ := hA; have q0e : r (.tmp 7) = .pointer (some ⟨w.heap.size + 1, 0, none⟩) := q0; have hc := HF.out w1 ((KG.out.trans hg1).trans hg); exact ⟨rfl, by simp [go_sem, q0e, hc]⟩) ?_
  refine tab_val (.slice al lx pl) (fun r w1 hr hg hA => by obtain ⟨q0, -⟩ := hA; have q0e : r (.tmp 4) = .slice al lx pl := q0; exact ⟨rfl, by simp [go_sem, q0e]⟩) ?_
  refine tab_val (.slice am ly pm) (fun r w1 hr hg hA => by obtain ⟨q0, -⟩ := hA; have q0e : r (.tmp 5) = .slice am ly pm := q0; exact ⟨rfl, by simp [go_sem, q0e]⟩) ?_
  refine tab_callQ (fun v w => PtsAt w v L) (fun v w w' h hg => h.grows hg) (fun r w1 hr hg hA => by obtain ⟨⟨_, q0⟩, ⟨_, q1⟩, ⟨_, q2⟩, ⟨_, q3⟩, -⟩ := hA; have q0e : r (.tmp 74) = .agg #[.int .i64 ax, .int .i64 ay] := q0; have q1e : r (.tmp 75) = .agg #[.int .i64 bx, .int .i64 b_y] := q1; have q2e : r (.tmp 76) = .slice al lx pl := q2; have q3e : r (.tmp 77) = .slice am ly pm := q3; exact ⟨rfl, _, by simp [go_sem, hr.func, q0e, q1e, q2e, q3e], HCL.out w1 ((G.out.trans hg1).trans hg)⟩) ?_
  refine tab_val (.agg #[.int .i64 bx, .int .i64 b_y]) (fun r w1 hr hg hA => by obtain ⟨q0, -⟩ := hA; have q0e : r (.tmp 7) = .pointer (some ⟨w.heap.size + 1, 0, none⟩) := q0; have hc := HF.out w1 ((KG.out.trans hg1).trans hg); exact ⟨rfl, by simp [go_sem, q0e, hc]⟩) ?_
  refine tab_val (.agg #[.int .i64 ax, .int .i64 ay]) (fun r w1 hr hg hA => by obtain ⟨q0, -⟩ := hA; have q0e : r (.tmp 6) = .pointer (some ⟨w.heap.size, 0, none⟩) := q0; have hc := HF.out w1 ((KG.out.trans hg1).trans hg); exact ⟨rfl, by simp [go_sem, q0e, hc]⟩) ?_
  refine tab_val (.slice al lx pl) (fun r w1 hr hg hA => by obtain ⟨q0, -⟩ := hA; have q0e : r (.tmp 4) = .slice al lx pl := q0; exact ⟨rfl, by simp [go_sem, q0e]⟩) ?_
  refine tab_val (.slice am ly pm) (fun r w1 hr hg hA => by obtain ⟨q0, -⟩ := hA; have q0e : r (.tmp 5) = .slice am ly pm := q0; exact ⟨rfl, by simp [go_sem, q0e]⟩) ?_
  refine tab_callQ (fun v w => PtsAt w v L.reverse) (fun v w w' h hg => h.grows hg) (fun r w1 hr hg hA => by obtain ⟨⟨_, q0⟩, ⟨_, q1⟩, ⟨_, q2⟩, ⟨_, q3⟩, -⟩ := hA; have q0e : r (.tmp 79) = .agg #[.int .i64 bx, .int .i64 b_y] := q0; have q1e : r (.tmp 80) = .agg #[.int .i64 ax, .int .i64 ay] := q1; have q2e : r (.tmp 81) = .slice al lx pl := q2; have q3e : r (.tmp 82) = .slice am ly pm := q3; exact ⟨rfl, _, by simp [go_sem, hr.func, q0e, q1e, q2e, q3e], HCR.out w1 ((G.out.trans hg1).trans hg)⟩) ?_
  refine tab_end ?_
  simp only [List.reverse_cons, List.reverse_nil, List.nil_append, List.cons_append, Out, BlockP, forall_eq, forall_const, Act.put, List.setIfInBounds_toArray, List.set_cons_succ, List.set_cons_zero]

  rintro wc hgA v78 hv78 v83 hv83
  have G := Lib.hid (G.out.trans (hg1.trans hgA))
  have PL := Lib.hid hv78
  have PR := Lib.hid hv83
  clear hg1 hg1' hgA hw0 HCL HCR KG HF hv78 hv83
  obtain ⟨oa, ca, rfl, hca, -⟩ := PL.out.shape
  obtain ⟨ob, cb, rfl, hcb, -⟩ := PR.out.shape
  rw [List.length_reverse] at hcb PR ⊢
  obtain ⟨m, hm⟩ : ∃ m, m = L.length := ⟨_, rfl⟩
  rw [← hm] at hca hcb PL PR HLN ⊢
  have HM := Lib.hid hm
  clear hm
  have hm40 : m ≤ 40 := HLN.out
  go_wp2
  go_loopw [21] (fun i wr => ∃ j : Nat, i = .int .i64 (j : Int) ∧ j ≤ m ∧ Hid (Grows wc wr)) (fun i _ => m - (intOf i).toNat)
  case atStart => exact ⟨0, rfl, Nat.zero_le _, Lib.hid (Grows.refl _)⟩
  case round =>
    obtain ⟨j, rfl, hj, GR⟩ := hrel
    by_cases hjk : j < m
    · obtain ⟨jj, hjj⟩ : ∃ jj, jj = m - 1 - j := ⟨_, rfl⟩
      have hjm : jj < m := by omega
      have e1 : (m : Int) - 1 - (j : Int) = (jj : Int) := by omega
      obtain ⟨ba, fa, rfl, hba, -, -⟩ := PL.out.at_ (i := j) (by rw [← HM.out]; exact hjk)
      obtain ⟨bb, fb, rfl, hbb, -, -⟩ := PR.out.at_ (i := jj) (by rw [List.length_reverse, ← HM.out]; exact hjm)
      obtain ⟨u1, u2⟩ := (PL.out.grows GR.out).at_cell (i := j) (by rw [← HM.out]; exact hjk)
      obtain ⟨v1, v2⟩ := (PR.out.grows GR.out).at_cell (i := jj) (by rw [List.length_reverse, ← HM.out]; exact hjm)
      rw [show L.reverse.getD jj (0, 0) = L.getD j (0, 0) by rw [hjj, HM.out]; exact rev_getD (by rw [← HM.out]; exact hjk)] at v1 v2
      generalize L.getD j (0, 0) = x at u1 u2 v1 v2
      obtain ⟨ex, ey⟩ := x
      simp only at u1 u2 v1 v2
      have hjlt : (j : Int) < (m : Int) := by omega
      clear hjj
      go_wp2_with fail
      go_quiet (fail)
      go_wp2
      exact ⟨⟨j + 1, by simp, by omega, Lib.hid (GR.out.trans ⟨rfl, rfl, rfl, Nat.le_refl _, fun _ _ => rfl⟩)⟩, by simp only [intOf]; omega⟩
    · obtain rfl : j = m := by omega
      go_wp2_with fail
      refine (kn_any _).mono ?_
      rintro _ w9 ⟨rfl, hg⟩
      go_wp2
      go_ret
      exact ⟨rfl, (G.out.trans GR.out).trans hg⟩
end Go.Proofs.Ytlgplhanhnjeiaa
