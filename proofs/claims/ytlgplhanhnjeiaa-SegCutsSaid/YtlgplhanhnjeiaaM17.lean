/-
  Layer 2: the law SegCuts.
-/
import Derived.Test.YtlgplhanhnjeiaaM16
import Derived.Test.YtlgplhanhnjeiaaM11
namespace Go.Proofs.Ytlgplhanhnjeiaa
open Go.RowKit Go.Tab Go.Sort

theorem atX_no {a b : Pt} (h : (mayP a && mayP b) = false) (c : Int) : atX a b c = (0, false) := by
  have r1 : rightB [(b.1, b.2), (a.1, a.2)] = false := by
    simp only [rightB, List.all_cons, List.all_nil, Bool.and_true]
    rw [Bool.and_comm]; exact h
  have r2 : rightB [(a.1, a.2), (b.1, b.2)] = false := by
    simp only [rightB, List.all_cons, List.all_nil, Bool.and_true]; exact h
  unfold atX
  split
  · unfold atF; rw [if_pos (.inl r1)]
  · unfold atF; rw [if_pos (.inl r2)]
theorem may_swap (p : Pt) : mayP (p.2, p.1) = mayP p := by
  unfold mayP mayB
  rw [Bool.eq_iff_iff]; simp only [decide_eq_true_eq]; omega
theorem atY_no {a b : Pt} (h : (mayP a && mayP b) = false) (c : Int) : atY a b c = (0, false) := atX_no (by rw [may_swap, may_swap]; exact h) c
theorem cuts_no {a b : Pt} {xs ys : List Int} {L : List Pt} (h : (mayP a && mayP b) = false) (hL : IsCuts a b xs ys L) : L = [] := by
  cases L with
  | nil => rfl
  | cons p l =>
    obtain ⟨-, -, hk⟩ := (hL.2 p).1 List.mem_cons_self
    rcases mem_cuts.1 hk with ⟨c, -, h1, -⟩ | ⟨c, -, h1, -⟩
    · rw [atX_no h] at h1; cases h1
    · rw [atY_no h] at h1; cases h1

set_option maxRecDepth 100000 in
set_option maxHeartbeats 8000000 in
theorem law_cuts (a b : Pt) (c : Int) (xs ys : List Int) (al am : Option Addr) (kx pl ky pm lx ly : Nat) (w : World)
    (hx0 : lx = min kx 20) (hy0 : ly = min ky 20) (hkx : kx ≤ pl) (hky : ky ≤ pm) (hcx : pl ≤ 9223372036854775807) (hcy : pm ≤ 9223372036854775807)
    (Hx : Hid (xs.length = lx)) (Hy : Hid (ys.length = ly)) (IX : Hid (IntsAt w (.slice al lx pl) xs)) (IY : Hid (IntsAt w (.slice am ly pm) ys)) :
    Calls Try.prog 4 #[pp a, pp b, .int .i64 c, .slice al kx pl, .slice am ky pm] w (Ret (.bool true) w) := by
  obtain ⟨L, hL, hLn⟩ := cuts_list a b xs ys
  have HCL := Lib.hid (fun w1 (hg : Grows w w1) => Cuts_is hL (.slice al lx pl) (.slice am ly pm) w1 (IX.out.grows hg) (IY.out.grows hg) (by rw [Hx.out]; omega) (by rw [Hy.out]; omega))
  have HRC0 := Lib.hid (fun (ma : mayP a = true) (mb : mayP b = true) w1 (hg : Grows w w1) => rCuts_is hL ma mb (.slice al lx pl) (.slice am ly pm) w1 (IX.out.grows hg) (IY.out.grows hg) (by rw [Hx.out]; omega) (by rw [Hy.out]; omega))
  have HLN : Hid (L.length ≤ 40) := Lib.hid (by have := Hx.out; have := Hy.out; omega)
  have HX := Lib.hid (fun w => atx_any a b c w)
  have HY := Lib.hid (fun w => aty_any a b c w)
  have HNO := Lib.hid (fun (h : (mayP a && mayP b) = false) => And.intro (atX_no h c) (And.intro (atY_no h c) (cuts_no h hL)))
  have HR1 := Lib.hid (fun w (ma : mayP a = true) (mb : mayP b = true) => rat_any a.1 a.2 b.1 b.2 c w ma mb)
  have HR2 := Lib.hid (fun w (ma : mayP a = true) (mb : mayP b = true) => rat_any a.2 a.1 b.2 b.1 c w (may_sw ma) (may_sw mb))
  clear hL hLn
  have m1 : min (kx : Int) 20 = (lx : Int) := by omega
  have m2 : min (ky : Int) 20 = (ly : Int) := by omega
  have b1 : lx ≤ pl := by omega
  have b2 : ly ≤ pm := by omega
  have z1 : lx ≤ 20 := by omega
  have z2 : ly ≤ 20 := by omega
  clear hx0 hy0
  obtain ⟨ax, ay⟩ := a
  obtain ⟨bx, b_y⟩ := b
  unfold pp at HCL HRC0 HX HY ⊢
  unfold atY at HY HNO
  unfold mayP at HRC0 HNO HR1 HR2
  simp only at HCL HRC0 HX HY HNO HR1 HR2 ⊢
  generalize atX (ax, ay) (bx, b_y) c = qx at HX HNO HR1
  generalize atX (ay, ax) (b_y, bx) c = qy at HY HNO HR2
  obtain ⟨x1, x2⟩ := qx
  obtain ⟨y1, y2⟩ := qy
  simp only [Prod.mk.injEq] at HX HY HNO HR1 HR2
  go_enter Try.func4, Try.ntmps4
  go_wp2_with fail
  have B0 := Lib.hid ((Grows.alloc _ (.cells #[.int .i64 bx, .int .i64 b_y] 23)).block (heap_new w (.cells #[.int .i64 ax, .int .i64 ay] 23) _ rfl))
  have B1 := Lib.hid (heap_new (w.alloc (.cells #[.int .i64 ax, .int .i64 ay] 23)) (.cells #[.int .i64 bx, .int .i64 b_y] 23) (w.heap.size + 1) (by simp))
  have G := Lib.hid (((Grows.refl w).al (.cells #[.int .i64 ax, .int .i64 ay] 23)).al (.cells #[.int .i64 bx, .int .i64 b_y] 23))
  generalize (w.alloc (.cells #[.int .i64 ax, .int .i64 ay] 23)).alloc (.cells #[.int .i64 bx, .int .i64 b_y] 23) = wq at B0 B1 G ⊢
  have HF : Hid (∀ w', Grows wq w' → _) := Lib.hid (fun w' (hg : Grows wq w') => And.intro (cells2 (hg.block B0.out)) (cells2 (hg.block B1.out)))
  clear B0 B1
  go_quiet (fail)
  rename_i nq
  obtain ⟨w1, hw1⟩ : ∃ w1, w1 = wq.drewN nq := ⟨_, rfl⟩
  rw [← hw1]
  have KG : Hid (Grows wq w1) := Lib.hid (by rw [hw1]; exact ⟨rfl, rfl, rfl, Nat.le_refl _, fun _ _ => rfl⟩)
  clear hw1 m1 m2 hkx hky
  obtain ⟨⟨a0, a1, -, -⟩, ⟨c0, c1, -, -⟩⟩ := HF.out w1 KG.out
  go_wp2_with fail
  refine (of_any _ _ _).mono ?_
  rintro _ w2 ⟨rfl, hg⟩
  have KG := Lib.hid (KG.out.trans hg)
  clear hg a0 a1 c0 c1
  go_wp2_with fail
  refine (may_any _ _ _).mono ?_
  rintro _ w3 ⟨rfl, hg⟩
  have KG := Lib.hid (KG.out.trans hg)
  clear hg 
  cases hma : mayB ax ay with
  | false =>
    obtain ⟨⟨rfl, rfl⟩, ⟨rfl, rfl⟩, rfl⟩ := HNO.out (by rw [hma]; rfl)
    clear hma HR1 HR2 HRC0
    obtain ⟨⟨a0, a1, -, -⟩, ⟨c0, c1, -, -⟩⟩ := HF.out _ KG.out
    go_wp2_with fail
    refine ((HX.out _)).mono ?_
    rintro _ w6 ⟨rfl, hg⟩
    have KG := Lib.hid (KG.out.trans hg)
    clear hg a0 a1 c0 c1
    obtain ⟨⟨a0, a1, -, -⟩, ⟨c0, c1, -, -⟩⟩ := HF.out _ KG.out
    go_wp2_with fail
    refine ((HY.out _)).mono ?_
    rintro _ w7 ⟨rfl, hg⟩
    have KG := Lib.hid (KG.out.trans hg)
    clear hg a0 a1 c0 c1
    obtain ⟨⟨a0, a1, -, -⟩, ⟨c0, c1, -, -⟩⟩ := HF.out _ KG.out
    go_wp2_with (first | (go_at_call 12; refine (kn_any _).mono ?_; rintro _ w8 ⟨rfl, hg⟩; have KG := Lib.hid (KG.out.trans hg); clear hg a0 a1 c0 c1; obtain ⟨⟨a0, a1, -, -⟩, ⟨c0, c1, -, -⟩⟩ := HF.out _ KG.out) | (go_at_call 17; refine (HCL.out _ (G.out.trans KG.out)).mono ?_; rintro _ w9 ⟨v9, rfl, hv9, hg⟩; have KG := Lib.hid (KG.out.trans hg); obtain ⟨o9, c9, rfl, -, -⟩ := hv9.shape; clear hg hv9))
    go_ret
    exact ⟨rfl, G.out.trans KG.out⟩
  | true =>
    obtain ⟨⟨a0, a1, -, -⟩, ⟨c0, c1, -, -⟩⟩ := HF.out w3 KG.out
    go_wp2_with fail
    refine (of_any _ _ _).mono ?_
    rintro _ w4 ⟨rfl, hg⟩
    have KG := Lib.hid (KG.out.trans hg)
    clear hg a0 a1 c0 c1
    go_wp2_with fail
    refine (may_any _ _ _).mono ?_
    rintro _ w5 ⟨rfl, hg⟩
    have KG := Lib.hid (KG.out.trans hg)
    clear hg 
    cases hmb : mayB bx b_y with
    | false =>
      obtain ⟨⟨rfl, rfl⟩, ⟨rfl, rfl⟩, rfl⟩ := HNO.out (by rw [hma, hmb]; rfl)
      clear hma hmb HR1 HR2 HRC0
      obtain ⟨⟨a0, a1, -, -⟩, ⟨c0, c1, -, -⟩⟩ := HF.out _ KG.out
      go_wp2_with fail
      refine ((HX.out _)).mono ?_
      rintro _ w6 ⟨rfl, hg⟩
      have KG := Lib.hid (KG.out.trans hg)
      clear hg a0 a1 c0 c1
      obtain ⟨⟨a0, a1, -, -⟩, ⟨c0, c1, -, -⟩⟩ := HF.out _ KG.out
      go_wp2_with fail
      refine ((HY.out _)).mono ?_
      rintro _ w7 ⟨rfl, hg⟩
      have KG := Lib.hid (KG.out.trans hg)
      clear hg a0 a1 c0 c1
      obtain ⟨⟨a0, a1, -, -⟩, ⟨c0, c1, -, -⟩⟩ := HF.out _ KG.out
      go_wp2_with (first | (go_at_call 12; refine (kn_any _).mono ?_; rintro _ w8 ⟨rfl, hg⟩; have KG := Lib.hid (KG.out.trans hg); clear hg a0 a1 c0 c1; obtain ⟨⟨a0, a1, -, -⟩, ⟨c0, c1, -, -⟩⟩ := HF.out _ KG.out) | (go_at_call 17; refine (HCL.out _ (G.out.trans KG.out)).mono ?_; rintro _ w9 ⟨v9, rfl, hv9, hg⟩; have KG := Lib.hid (KG.out.trans hg); obtain ⟨o9, c9, rfl, -, -⟩ := hv9.shape; clear hg hv9))
      go_ret
      exact ⟨rfl, G.out.trans KG.out⟩
    | true =>
      have HRC := Lib.hid (HRC0.out hma hmb)
      have HR1 := Lib.hid (fun w => HR1.out w hma hmb)
      have HR2 := Lib.hid (fun w => HR2.out w hma hmb)
      clear hma hmb HRC0 HNO
      obtain ⟨⟨a0, a1, -, -⟩, ⟨c0, c1, -, -⟩⟩ := HF.out _ KG.out
      go_wp2_with fail
      refine ((HX.out _)).mono ?_
      rintro _ w6 ⟨rfl, hg⟩
      have KG := Lib.hid (KG.out.trans hg)
      clear hg a0 a1 c0 c1
      obtain ⟨⟨a0, a1, -, -⟩, ⟨c0, c1, -, -⟩⟩ := HF.out _ KG.out
      go_wp2_with fail
      refine ((HY.out _)).mono ?_
      rintro _ w7 ⟨rfl, hg⟩
      have KG := Lib.hid (KG.out.trans hg)
      clear hg a0 a1 c0 c1
      obtain ⟨⟨a0, a1, -, -⟩, ⟨c0, c1, -, -⟩⟩ := HF.out _ KG.out
      go_wp2_with fail
      refine ((HR1.out _)).mono ?_
      rintro _ w8 ⟨rfl, hg⟩
      have KG := Lib.hid (KG.out.trans hg)
      clear hg a0 a1 c0 c1
      obtain ⟨⟨a0, a1, -, -⟩, ⟨c0, c1, -, -⟩⟩ := HF.out _ KG.out
      go_wp2_with fail
      refine ((HR2.out _)).mono ?_
      rintro _ w9 ⟨rfl, hg⟩
      have KG := Lib.hid (KG.out.trans hg)
      clear hg a0 a1 c0 c1
      go_wp2_with fail
      refine wp_region_tab 12 (by kernel_rfl) (by kernel_rfl) ?_
      intro w0 hw0 hg1 hg1'
      simp only [List.take_succ_cons, List.take_zero, List.drop_succ_cons, List.drop_zero]
      refine tab_val (.agg #[.int .i64 ax, .int .i64 ay]) (fun r w1 hr hg hA => by obtain ⟨q0, -⟩ := hA; have q0e : r (.tmp 5) = .pointer (some ⟨w.heap.size, 0, none⟩) := q0; have hc := HF.out w1 ((KG.out.trans hg1).trans hg); exact ⟨rfl, by simp [go_sem, q0e, hc]⟩) ?_
      refine tab_val (.agg #[.int .i64 bx, .int .i64 b_y]) (fun r w1 hr hg hA => by obtain ⟨q0, -⟩ := hA; have q0e : r (.tmp 6) = .pointer (some ⟨w.heap.size + 1, 0, none⟩) := q0; have hc := HF.out w1 ((KG.out.trans hg1).trans hg); exact ⟨rfl, by simp [go_sem, q0e, hc]⟩) ?_
      refine tab_val (.slice al lx pl) (fun r w1 hr hg hA => by obtain ⟨q0, -⟩ := hA; have q0e : r (.tmp 3) = .slice al lx pl := q0; exact ⟨rfl, by simp [go_sem, q0e]⟩) ?_
      refine tab_val (.slice am ly pm) (fun r w1 hr hg hA => by obtain ⟨q0, -⟩ := hA; have q0e : r (.tmp 4) = .slice am ly pm := q0; exact ⟨rfl, by simp [go_sem, q0e]⟩) ?_
      refine tab_callQ (fun v w => PtsAt w v L) (fun v w w' h hg => h.grows hg) (fun r w1 hr hg hA => by obtain ⟨⟨_, q0⟩, ⟨_, q1⟩, ⟨_, q2⟩, ⟨_, q3⟩, -⟩ := hA; have q0e : r (.tmp 127) = .agg #[.int .i64 ax, .int .i64 ay] := q0; have q1e : r (.tmp 128) = .agg #[.int .i64 bx, .int .i64 b_y] := q1; have q2e : r (.tmp 129) = .slice al lx pl := q2; have q3e : r (.tmp 130) = .slice am ly pm := q3; exact ⟨rfl, _, by simp [go_sem, hr.func, q0e, q1e, q2e, q3e], HCL.out w1 ((G.out.trans (KG.out.trans hg1)).trans hg)⟩) ?_
      refine tab_val (.agg #[.int .i64 ax, .int .i64 ay]) (fun r w1 hr hg hA => by obtain ⟨q0, -⟩ := hA; have q0e : r (.tmp 5) = .pointer (some ⟨w.heap.size, 0, none⟩) := q0; have hc := HF.out w1 ((KG.out.trans hg1).trans hg); exact ⟨rfl, by simp [go_sem, q0e, hc]⟩) ?_
      refine tab_call (v := .agg #[.int .i64 ax, .int .i64 ay]) (fun w1 hg => of_any ax ay w1) (fun r w1 hr hg hA => by obtain ⟨⟨_, q0⟩, -⟩ := hA; have q0e : r (.tmp 132) = .agg #[.int .i64 ax, .int .i64 ay] := q0; exact ⟨rfl, by simp [go_sem, hr.func, q0e]⟩) ?_
      refine tab_val (.agg #[.int .i64 bx, .int .i64 b_y]) (fun r w1 hr hg hA => by obtain ⟨q0, -⟩ := hA; have q0e : r (.tmp 6) = .pointer (some ⟨w.heap.size + 1, 0, none⟩) := q0; have hc := HF.out w1 ((KG.out.trans hg1).trans hg); exact ⟨rfl, by simp [go_sem, q0e, hc]⟩) ?_
      refine tab_call (v := .agg #[.int .i64 bx, .int .i64 b_y]) (fun w1 hg => of_any bx b_y w1) (fun r w1 hr hg hA => by obtain ⟨⟨_, q0⟩, -⟩ := hA; have q0e : r (.tmp 134) = .agg #[.int .i64 bx, .int .i64 b_y] := q0; exact ⟨rfl, by simp [go_sem, hr.func, q0e]⟩) ?_
      refine tab_val (.slice al lx pl) (fun r w1 hr hg hA => by obtain ⟨q0, -⟩ := hA; have q0e : r (.tmp 3) = .slice al lx pl := q0; exact ⟨rfl, by simp [go_sem, q0e]⟩) ?_
      refine tab_val (.slice am ly pm) (fun r w1 hr hg hA => by obtain ⟨q0, -⟩ := hA; have q0e : r (.tmp 4) = .slice am ly pm := q0; exact ⟨rfl, by simp [go_sem, q0e]⟩) ?_
      refine tab_callQ (fun v w => PtsAt w v L) (fun v w w' h hg => h.grows hg) (fun r w1 hr hg hA => by obtain ⟨⟨_, q0⟩, ⟨_, q1⟩, ⟨_, q2⟩, ⟨_, q3⟩, -⟩ := hA; have q0e : r (.tmp 133) = .agg #[.int .i64 ax, .int .i64 ay] := q0; have q1e : r (.tmp 135) = .agg #[.int .i64 bx, .int .i64 b_y] := q1; have q2e : r (.tmp 136) = .slice al lx pl := q2; have q3e : r (.tmp 137) = .slice am ly pm := q3; exact ⟨rfl, _, by simp [go_sem, hr.func, q0e, q1e, q2e, q3e], HRC.out w1 ((G.out.trans (KG.out.trans hg1)).trans hg)⟩) ?_
      refine tab_end ?_
      simp only [List.reverse_cons, List.reverse_nil, List.nil_append, List.cons_append, Out, BlockP, forall_eq, forall_const, Act.put, List.setIfInBounds_toArray, List.set_cons_succ, List.set_cons_zero]

      intro wc hgA v131 hv131 v138 hv138
      have G := Lib.hid (G.out.trans (KG.out.trans (hg1.trans hgA)))
      have PL := Lib.hid hv131
      have PR := Lib.hid hv138
      clear hg1 hg1' hgA hw0 HCL HRC KG HF hv131 hv138 HX HY HR1 HR2
      obtain ⟨oa, ca, rfl, hca, -⟩ := PL.out.shape
      obtain ⟨ob, cb, rfl, hcb, -⟩ := PR.out.shape
      obtain ⟨m, hm⟩ : ∃ m, m = L.length := ⟨_, rfl⟩
      rw [← hm] at hca hcb PL PR HLN ⊢
      have HM := Lib.hid hm
      clear hm
      have hm40 : m ≤ 40 := HLN.out
      go_wp2
      go_loopw [22] (fun i wr => ∃ j : Nat, i = .int .i64 (j : Int) ∧ j ≤ m ∧ Hid (Grows wc wr)) (fun i _ => m - (intOf i).toNat)
      case atStart => exact ⟨0, rfl, Nat.zero_le _, Lib.hid (Grows.refl _)⟩
      case round =>
        obtain ⟨j, rfl, hj, GR⟩ := hrel
        by_cases hjk : j < m
        · obtain ⟨ba, fa, rfl, hba, -, -⟩ := PL.out.at_ (i := j) (by rw [← HM.out]; exact hjk)
          obtain ⟨bb, fb, rfl, hbb, -, -⟩ := PR.out.at_ (i := j) (by rw [← HM.out]; exact hjk)
          obtain ⟨u1, u2⟩ := (PL.out.grows GR.out).at_cell (i := j) (by rw [← HM.out]; exact hjk)
          obtain ⟨v1, v2⟩ := (PR.out.grows GR.out).at_cell (i := j) (by rw [← HM.out]; exact hjk)
          generalize L.getD j (0, 0) = x at u1 u2 v1 v2
          obtain ⟨ex, ey⟩ := x
          simp only at u1 u2 v1 v2
          have hjlt : (j : Int) < (m : Int) := by omega
          have HC : Hid (∀ w', Grows wr w' → _) := Lib.hid (fun w' (hg : Grows wr w') => And.intro (And.intro ((Below.cell hg (p := ⟨ba, fa + j * 2, none⟩) (cell_lt u1)).trans u1) ((Below.cell hg (p := ⟨ba, fa + j * 2 + 1, none⟩) (cell_lt u2)).trans u2)) (And.intro ((Below.cell hg (p := ⟨bb, fb + j * 2, none⟩) (cell_lt v1)).trans v1) ((Below.cell hg (p := ⟨bb, fb + j * 2 + 1, none⟩) (cell_lt v2)).trans v2)))
          go_wp2_with fail
          refine wp_region_tab 10 (by kernel_rfl) (by kernel_rfl) ?_
          intro w0 hw0 hg1 hg1'
          simp only [List.take_succ_cons, List.take_zero, List.drop_succ_cons, List.drop_zero]
          refine tab_val (.slice (some ⟨ba, fa, none⟩) m ca) (fun r w1 hr hg hA => by obtain ⟨q0, -⟩ := hA; have q0e : r (.tmp 20) = .slice (some ⟨ba, fa, none⟩) m ca := q0; exact ⟨rfl, by simp [go_sem, q0e]⟩) ?_
          refine tab_val (.int .i64 (j : Int)) (fun r w1 hr hg hA => by obtain ⟨q0, -⟩ := hA; have q0e : r (.tmp 22) = .int .i64 (j : Int) := q0; exact ⟨rfl, by simp [go_sem, q0e]⟩) ?_
          refine tab_val (.pointer (some ⟨ba, fa + j * 2, none⟩)) (fun r w1 hr hg hA => by obtain ⟨⟨_, q0⟩, ⟨_, q1⟩, -⟩ := hA; have q0e : r (.tmp 150) = .slice (some ⟨ba, fa, none⟩) m ca := q0; have q1e : r (.tmp 151) = .int .i64 (j : Int) := q1; exact ⟨rfl, by simp [go_sem, q0e, q1e, hjk]⟩) ?_
          refine tab_val (.agg #[.int .i64 ex, .int .i64 ey]) (fun r w1 hr hg hA => by obtain ⟨⟨_, q0⟩, -⟩ := hA; have q0e : r (.tmp 152) = .pointer (some ⟨ba, fa + j * 2, none⟩) := q0; have hc := HC.out w1 (hg1.trans hg); exact ⟨rfl, by simp [go_sem, q0e, hc]⟩) ?_
          refine tab_call (v := .agg #[.int .i64 ex, .int .i64 ey]) (fun w1 hg => of_any ex ey w1) (fun r w1 hr hg hA => by obtain ⟨⟨_, q0⟩, -⟩ := hA; have q0e : r (.tmp 153) = .agg #[.int .i64 ex, .int .i64 ey] := q0; exact ⟨rfl, by simp [go_sem, hr.func, q0e]⟩) ?_
          refine tab_val (.slice (some ⟨bb, fb, none⟩) m cb) (fun r w1 hr hg hA => by obtain ⟨q0, -⟩ := hA; have q0e : r (.tmp 21) = .slice (some ⟨bb, fb, none⟩) m cb := q0; exact ⟨rfl, by simp [go_sem, q0e]⟩) ?_
          refine tab_val (.int .i64 (j : Int)) (fun r w1 hr hg hA => by obtain ⟨q0, -⟩ := hA; have q0e : r (.tmp 22) = .int .i64 (j : Int) := q0; exact ⟨rfl, by simp [go_sem, q0e]⟩) ?_
          refine tab_val (.pointer (some ⟨bb, fb + j * 2, none⟩)) (fun r w1 hr hg hA => by obtain ⟨⟨_, q0⟩, ⟨_, q1⟩, -⟩ := hA; have q0e : r (.tmp 155) = .slice (some ⟨bb, fb, none⟩) m cb := q0; have q1e : r (.tmp 156) = .int .i64 (j : Int) := q1; exact ⟨rfl, by simp [go_sem, q0e, q1e, hjk]⟩) ?_
          refine tab_val (.agg #[.int .i64 ex, .int .i64 ey]) (fun r w1 hr hg hA => by obtain ⟨⟨_, q0⟩, -⟩ := hA; have q0e : r (.tmp 157) = .pointer (some ⟨bb, fb + j * 2, none⟩) := q0; have hc := HC.out w1 (hg1.trans hg); exact ⟨rfl, by simp [go_sem, q0e, hc]⟩) ?_
          refine tab_val (.bool (!eqP ex ey ex ey)) (fun r w1 hr hg hA => by obtain ⟨⟨_, q0⟩, ⟨_, q1⟩, -⟩ := hA; have q0e : r (.tmp 154) = .agg #[.int .i64 ex, .int .i64 ey] := q0; have q1e : r (.tmp 158) = .agg #[.int .i64 ex, .int .i64 ey] := q1; exact ⟨rfl, by simp [go_sem, q0e, q1e, eqP]⟩) ?_
          refine tab_end ?_
          simp only [List.reverse_cons, List.reverse_nil, List.nil_append, List.cons_append, Out, BlockP, forall_eq, forall_const, Act.put, List.setIfInBounds_toArray, List.set_cons_succ, List.set_cons_zero]

          intro wd hgB
          have GR2 := Lib.hid (GR.out.trans (hg1.trans hgB))
          clear hg1 hgB hg1' hw0
          have hee : eqP ex ey ex ey = true := by unfold eqP; simp
          rw [hee]
          go_wp2
          exact ⟨⟨j + 1, by simp, by omega, GR2⟩, by simp only [intOf]; omega⟩
        · obtain rfl : j = m := by omega
          go_wp2_with fail
          refine (kn_any _).mono ?_
          rintro _ w9 ⟨rfl, hg⟩
          go_wp2
          go_ret
          exact ⟨rfl, (G.out.trans GR.out).trans hg⟩
end Go.Proofs.Ytlgplhanhnjeiaa
