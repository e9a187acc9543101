/-
  Layer 2: the class of two segments.
-/
import Derived.Test.YtlgplhanhnjeiaaS3
namespace Go.Proofs.Ytlgplhanhnjeiaa
open Go.RowKit Go.Tab

def mayP (p : Pt) : Bool := mayB p.1 p.2
/-- The class and the error. -/
def clsP (a b c d : Pt) : Int × Int :=
  if (mayP a && mayP b && mayP c && mayP d) = false then (0, 5) else if a = b ∨ c = d then (0, 1) else (classF a b c d, 0)
theorem on_pt {p q r : Pt} (hp : mayP p = true) (hq : mayP q = true) (hr : mayP r = true) (w : World) : Calls Try.prog 24 #[pp p, pp q, pp r] w (Ret (.bool (on p q r)) w) := by
  have h := on_any p.1 p.2 q.1 q.2 r.1 r.2 w
  unfold onP at h
  rw [show mayB p.1 p.2 = true from hp, show mayB q.1 q.2 = true from hq, show mayB r.1 r.2 = true from hr] at h
  exact h
theorem turn_pt {p q r : Pt} (hp : mayP p = true) (hq : mayP q = true) (hr : mayP r = true) (w : World) : Calls Try.prog 22 #[pp p, pp q, pp r] w (Ret (.int .i64 (signI (cr p q r))) w) := by
  have h := turn_any p.1 p.2 q.1 q.2 r.1 r.2 w
  unfold crossP at h
  rw [if_pos (by rw [show mayB p.1 p.2 = true from hp, show mayB q.1 q.2 = true from hq, show mayB r.1 r.2 = true from hr]; rfl)] at h
  exact h
theorem class_form (a b c d : Pt) : classF a b c d = if signI (cr a b c) = 0 ∧ signI (cr a b d) = 0 then alongF a b c d else if a = c ∨ a = d ∨ b = c ∨ b = d then 1 else if on a b c = true ∨ on a b d = true ∨ on c d a = true ∨ on c d b = true then 2 else if signI (cr a b c) * signI (cr a b d) < 0 ∧ signI (cr c d a) * signI (cr c d b) < 0 then 3 else 0 := by
  unfold classF
  simp only [sign0]
theorem sign_mul_bd (x y : Int) : IntKind.i64.wrap (signI x * signI y) = signI x * signI y := by
  rcases sign3 x with h | h | h <;> rcases sign3 y with h2 | h2 | h2 <;> rw [h, h2] <;> simp [IntKind.wrap, IntKind.bits, IntKind.signed]

set_option maxRecDepth 100000 in
set_option maxHeartbeats 8000000 in
theorem class_any (a b c d : Pt) (w : World) : Calls Try.prog 8 #[pp a, pp b, pp c, pp d] w (Ret (.tuple #[.int .i64 (clsP a b c d).1, .int .i64 (clsP a b c d).2]) w) := by
  have HR := Lib.hid (fun v w => right_any v [a, b, c, d] w)
  have hr4 : rightB [a, b, c, d] = (mayP a && mayP b && mayP c && mayP d) := right4 _ _ _ _ _ _ _ _
  rw [hr4] at HR
  clear hr4
  have HV : Hid (∀ q, clsP a b c d = q → (Ret (.tuple #[.int .i64 (clsP a b c d).1, .int .i64 (clsP a b c d).2]) w) = (Ret (.tuple #[.int .i64 q.1, .int .i64 q.2]) w)) := Lib.hid (fun q h => by rw [h])
  cases hm : (mayP a && mayP b && mayP c && mayP d) with
  | false =>
    rw [HV.out (0, 5) (by unfold clsP; rw [if_pos hm])]
    rw [hm] at HR
    clear hm HV
    obtain ⟨ax, ay⟩ := a
    obtain ⟨bx, b_y⟩ := b
    obtain ⟨cx, cy⟩ := c
    obtain ⟨dx, dy⟩ := d
    unfold pp
    simp only
    go_enter Try.func8, Try.ntmps8
    go_wp2_with fail
    refine (HR.out _ _ ?_).mono ?_
    · exact ptsAt4 (heap_new _ _ _ (by simp only [World.size_alloc]))
    rintro _ w1 ⟨rfl, hg⟩
    have G := Lib.hid ((((((Grows.refl w).al _).al _).al _).al _).al _ |>.trans hg)
    clear hg
    go_wp2
    go_ret2
    exact ⟨rfl, G.out⟩
  | true =>
    have hmm := hm
    simp only [Bool.and_eq_true] at hmm
    obtain ⟨⟨⟨ma, mb⟩, mc⟩, md⟩ := hmm
    rw [hm] at HR
    have HC : Hid (clsP a b c d = if a = b ∨ c = d then (0, 1) else (classF a b c d, 0)) := Lib.hid (by unfold clsP; rw [if_neg (by rw [hm]; decide)])
    have HK1 := Lib.hid (turn_pt ma mb mc)
    have HK2 := Lib.hid (turn_pt ma mb md)
    have HK3 := Lib.hid (turn_pt mc md ma)
    have HK4 := Lib.hid (turn_pt mc md mb)
    have HO1 := Lib.hid (on_pt ma mb mc)
    have HO2 := Lib.hid (on_pt ma mb md)
    have HO3 := Lib.hid (on_pt mc md ma)
    have HO4 := Lib.hid (on_pt mc md mb)
    have HAL := Lib.hid (along_any a b c d)
    have HCF := Lib.hid (class_form a b c d)
    have HM1 := Lib.hid (sign_mul_bd (cr a b c) (cr a b d))
    have HM2 := Lib.hid (sign_mul_bd (cr c d a) (cr c d b))
    clear hm ma mb mc md
    generalize signI (cr a b c) = sc at HK1 HCF HM1
    generalize signI (cr a b d) = sd at HK2 HCF HM1
    generalize signI (cr c d a) = sa at HK3 HCF HM2
    generalize signI (cr c d b) = sb at HK4 HCF HM2
    generalize on a b c = o1 at HO1 HCF
    generalize on a b d = o2 at HO2 HCF
    generalize on c d a = o3 at HO3 HCF
    generalize on c d b = o4 at HO4 HCF
    generalize alongF a b c d = al at HAL HCF
    generalize classF a b c d = cf at HC HCF
    clear HV
    generalize clsP a b c d = cl at HC ⊢
    obtain ⟨ax, ay⟩ := a
    obtain ⟨bx, b_y⟩ := b
    obtain ⟨cx, cy⟩ := c
    obtain ⟨dx, dy⟩ := d
    unfold pp at HK1 HK2 HK3 HK4 HO1 HO2 HO3 HO4 HAL
    simp only [Prod.mk.injEq] at HK1 HK2 HK3 HK4 HO1 HO2 HO3 HO4 HAL HCF HC ⊢
    go_enter Try.func8, Try.ntmps8
    go_wp2_with fail
    refine (HR.out _ _ ?_).mono ?_
    · exact ptsAt4 (heap_new _ _ _ (by simp only [World.size_alloc]))
    rintro _ wq ⟨rfl, hg⟩
    obtain ⟨h0, h1, h2, h3⟩ := box4 ((Grows.alloc _ _).trans hg)
    have Ba := Lib.hid h0
    have Bb := Lib.hid h1
    have Bc := Lib.hid h2
    have Bd := Lib.hid h3
    have G := Lib.hid ((((((Grows.refl w).al _).al _).al _).al _ |>.al _).trans hg)
    clear hg h0 h1 h2 h3 HR
    obtain ⟨a0, a1, a2, a3⟩ := cells2 Ba.out
    obtain ⟨b0, b1, b2, b3⟩ := cells2 Bb.out
    obtain ⟨c0, c1, c2, c3⟩ := cells2 Bc.out
    obtain ⟨d0, d1, d2, d3⟩ := cells2 Bd.out
    go_upto_region 3 with (fail)
    generalize pp (ax, ay) = va
    generalize pp (bx, b_y) = vb
    generalize pp (cx, cy) = vc
    generalize pp (dx, dy) = vd
    go_cut [26] (fun v wx => v = .bool (decide ((ax = bx ∧ ay = b_y) ∨ cx = dx ∧ cy = dy)) ∧ wx = wq)
    case first =>
      go_wp2_with fail
      all_goals
        go_meet
        exact ⟨by simp [*], rfl⟩
    case rest =>
      obtain ⟨hv, hwc⟩ := hcut
      have hwc := hwc.symm
      subst hwc
      by_cases hq : (ax = bx ∧ ay = b_y) ∨ cx = dx ∧ cy = dy
      · rw [decide_eq_true hq] at hv
        subst hv
        have HCL := Lib.hid (HC.out.trans (if_pos hq))
        clear hq
        go_wp2
        go_ret2
        exact ⟨by rw [HCL.out]; rfl, G.out⟩
      · rw [decide_eq_false hq] at hv
        subst hv
        have HCL := Lib.hid (HC.out.trans (if_neg hq))
        clear hq HC
        have K1 := HK1
        have K2 := HK2
        have HF : Hid (∀ w', Grows wq w' → _) := Lib.hid (fun w' (hg : Grows wq w') => And.intro (cells2 (hg.block Ba.out)) (And.intro (cells2 (hg.block Bb.out)) (And.intro (cells2 (hg.block Bc.out)) (cells2 (hg.block Bd.out)))))
        clear a0 a1 a2 a3 b0 b1 b2 b3 c0 c1 c2 c3 d0 d1 d2 d3
        go_wp2_with fail
        refine wp_region_tab 10 (by kernel_rfl) (by kernel_rfl) ?_
        intro w0 hw0 hg1 hg1'
        simp only [List.take_succ_cons, List.take_zero, List.drop_succ_cons, List.drop_zero]
        refine tab_val (.agg #[.int .i64 ax, .int .i64 ay]) (fun r w1 hr hg hA => by obtain ⟨q0, -⟩ := hA; have q0e : r (.tmp 4) = .pointer (some ⟨w.heap.size, 0, none⟩) := q0; have hc := HF.out w1 (hg1.trans hg); exact ⟨rfl, by simp [go_sem, q0e, hc]⟩) ?_
        refine tab_val (.agg #[.int .i64 bx, .int .i64 b_y]) (fun r w1 hr hg hA => by obtain ⟨q0, -⟩ := hA; have q0e : r (.tmp 5) = .pointer (some ⟨w.heap.size + 1, 0, none⟩) := q0; have hc := HF.out w1 (hg1.trans hg); exact ⟨rfl, by simp [go_sem, q0e, hc]⟩) ?_
        refine tab_val (.agg #[.int .i64 cx, .int .i64 cy]) (fun r w1 hr hg hA => by obtain ⟨q0, -⟩ := hA; have q0e : r (.tmp 6) = .pointer (some ⟨w.heap.size + 1 + 1, 0, none⟩) := q0; have hc := HF.out w1 (hg1.trans hg); exact ⟨rfl, by simp [go_sem, q0e, hc]⟩) ?_
        refine tab_call (v := .int .i64 sc) (fun w1 hg => K1.out w1) (fun r w1 hr hg hA => by obtain ⟨⟨_, q0⟩, ⟨_, q1⟩, ⟨_, q2⟩, -⟩ := hA; have q0e : r (.tmp 27) = .agg #[.int .i64 ax, .int .i64 ay] := q0; have q1e : r (.tmp 28) = .agg #[.int .i64 bx, .int .i64 b_y] := q1; have q2e : r (.tmp 29) = .agg #[.int .i64 cx, .int .i64 cy] := q2; exact ⟨rfl, by simp [go_sem, hr.func, q0e, q1e, q2e]⟩) ?_
        refine tab_val (.agg #[.int .i64 ax, .int .i64 ay]) (fun r w1 hr hg hA => by obtain ⟨q0, -⟩ := hA; have q0e : r (.tmp 4) = .pointer (some ⟨w.heap.size, 0, none⟩) := q0; have hc := HF.out w1 (hg1.trans hg); exact ⟨rfl, by simp [go_sem, q0e, hc]⟩) ?_
        refine tab_val (.agg #[.int .i64 bx, .int .i64 b_y]) (fun r w1 hr hg hA => by obtain ⟨q0, -⟩ := hA; have q0e : r (.tmp 5) = .pointer (some ⟨w.heap.size + 1, 0, none⟩) := q0; have hc := HF.out w1 (hg1.trans hg); exact ⟨rfl, by simp [go_sem, q0e, hc]⟩) ?_
        refine tab_val (.agg #[.int .i64 dx, .int .i64 dy]) (fun r w1 hr hg hA => by obtain ⟨q0, -⟩ := hA; have q0e : r (.tmp 7) = .pointer (some ⟨w.heap.size + 1 + 1 + 1, 0, none⟩) := q0; have hc := HF.out w1 (hg1.trans hg); exact ⟨rfl, by simp [go_sem, q0e, hc]⟩) ?_
        refine tab_call (v := .int .i64 sd) (fun w1 hg => K2.out w1) (fun r w1 hr hg hA => by obtain ⟨⟨_, q0⟩, ⟨_, q1⟩, ⟨_, q2⟩, -⟩ := hA; have q0e : r (.tmp 31) = .agg #[.int .i64 ax, .int .i64 ay] := q0; have q1e : r (.tmp 32) = .agg #[.int .i64 bx, .int .i64 b_y] := q1; have q2e : r (.tmp 33) = .agg #[.int .i64 dx, .int .i64 dy] := q2; exact ⟨rfl, by simp [go_sem, hr.func, q0e, q1e, q2e]⟩) ?_
        refine tab_val (.int .i64 sc) (fun r w1 hr hg hA => by obtain ⟨⟨_, q0⟩, -⟩ := hA; have q0e : r (.tmp 30) = .int .i64 sc := q0; exact ⟨rfl, by simp [go_sem, q0e]⟩) ?_
        refine tab_val (.int .i64 sd) (fun r w1 hr hg hA => by obtain ⟨⟨_, q0⟩, -⟩ := hA; have q0e : r (.tmp 34) = .int .i64 sd := q0; exact ⟨rfl, by simp [go_sem, q0e]⟩) ?_
        refine tab_end ?_
        simp only [List.reverse_cons, List.reverse_nil, List.nil_append, List.cons_append, Out, BlockP, forall_eq, forall_const, Act.put, List.setIfInBounds_toArray, List.set_cons_succ, List.set_cons_zero]
        intro w5 hgA
        have hgB := hg1.trans hgA
        have Ba' := Lib.hid (hgB.block Ba.out)
        have Bb' := Lib.hid (hgB.block Bb.out)
        have Bc' := Lib.hid (hgB.block Bc.out)
        have Bd' := Lib.hid (hgB.block Bd.out)
        have G' := Lib.hid (G.out.trans hgB)
        clear Ba Bb Bc Bd G
        have Ba := Ba'
        have Bb := Bb'
        have Bc := Bc'
        have Bd := Bd'
        have G := G'
        clear Ba' Bb' Bc' Bd' G'
        clear hg1 hgA hg1' hw0 hgB HF
        obtain ⟨a0, a1, a2, a3⟩ := cells2 Ba.out
        obtain ⟨b0, b1, b2, b3⟩ := cells2 Bb.out
        obtain ⟨c0, c1, c2, c3⟩ := cells2 Bc.out
        obtain ⟨d0, d1, d2, d3⟩ := cells2 Bd.out
        go_upto_region 6 with (fail)
        go_cut [40] (fun v wx => v = .bool (decide (sc = 0 ∧ sd = 0)) ∧ wx = w5)
        case first =>
          cases hb1 : (sc == 0) with
          | false =>
            go_wp2_with fail
            go_meet
            exact ⟨congrArg Value.bool (decide_eq_false (fun h => by rw [h.1] at hb1; exact absurd hb1 (by decide))).symm, rfl⟩
          | true =>
            cases hb2 : (sd == 0) with
            | false =>
              go_wp2_with fail
              go_meet
              exact ⟨congrArg Value.bool (decide_eq_false (fun h => by rw [h.2] at hb2; exact absurd hb2 (by decide))).symm, rfl⟩
            | true =>
              go_wp2_with fail
              go_meet
              exact ⟨congrArg Value.bool (decide_eq_true ⟨by simpa using hb1, by simpa using hb2⟩).symm, rfl⟩
        case rest =>
          obtain ⟨hv, hwc⟩ := hcut
          have hwc := hwc.symm
          subst hwc
          by_cases hz : sc = 0 ∧ sd = 0
          · rw [decide_eq_true hz] at hv
            subst hv
            have HF1 := Lib.hid (HCF.out.trans (if_pos hz))
            clear hz
            go_wp2_with fail
            refine (HAL.out _).mono ?_
            rintro _ w6 ⟨rfl, hg⟩
            have G' := Lib.hid (G.out.trans hg)
            clear hg
            go_wp2
            go_ret2
            exact ⟨by rw [HCL.out, HF1.out]; rfl, G'.out⟩
          · rw [decide_eq_false hz] at hv
            subst hv
            have HF1 := Lib.hid (HCF.out.trans (if_neg hz))
            clear hz
            go_upto_region 8 with (fail)
            go_cut [63] (fun v wx => v = .bool (decide ((ax = cx ∧ ay = cy) ∨ (ax = dx ∧ ay = dy) ∨ (bx = cx ∧ b_y = cy) ∨ bx = dx ∧ b_y = dy)) ∧ wx = w5)
            case first =>
              go_wp2_with fail
              all_goals
                go_meet
                first
                  | exact ⟨congrArg Value.bool (decide_eq_true (by omega)).symm, rfl⟩
                  | exact ⟨congrArg Value.bool (decide_eq_false (by omega)).symm, rfl⟩
            case rest =>
              obtain ⟨hv, hwc⟩ := hcut
              have hwc := hwc.symm
              subst hwc
              by_cases hs : (ax = cx ∧ ay = cy) ∨ (ax = dx ∧ ay = dy) ∨ (bx = cx ∧ b_y = cy) ∨ bx = dx ∧ b_y = dy
              · rw [decide_eq_true hs] at hv
                subst hv
                have HF2 := Lib.hid (HF1.out.trans (if_pos hs))
                clear hs
                go_wp2
                go_ret2
                exact ⟨by rw [HCL.out, HF2.out]; rfl, G.out⟩
              · rw [decide_eq_false hs] at hv
                subst hv
                have HF2 := Lib.hid (HF1.out.trans (if_neg hs))
                clear hs
                go_upto_region 10 with (fail)
                go_cut [85] (fun v wx => v = .bool (o1 || o2 || o3 || o4) ∧ Grows w5 wx)
                case first =>
                  go_wp2_with fail
                  refine (HO1.out _).mono ?_
                  rintro _ z1 ⟨rfl, hg⟩
                  clear a0 a1 a2 a3 b0 b1 b2 b3 c0 c1 c2 c3 d0 d1 d2 d3
                  have Ba' := Lib.hid (hg.block Ba.out)
                  have Bb' := Lib.hid (hg.block Bb.out)
                  have Bc' := Lib.hid (hg.block Bc.out)
                  have Bd' := Lib.hid (hg.block Bd.out)
                  have G' := Lib.hid (G.out.trans hg)
                  clear Ba Bb Bc Bd G
                  have Ba := Ba'
                  have Bb := Bb'
                  have Bc := Bc'
                  have Bd := Bd'
                  have G := G'
                  clear Ba' Bb' Bc' Bd' G'
                  have Gm := Lib.hid (hg)
                  clear hg
                  obtain ⟨a0, a1, a2, a3⟩ := cells2 Ba.out
                  obtain ⟨b0, b1, b2, b3⟩ := cells2 Bb.out
                  obtain ⟨c0, c1, c2, c3⟩ := cells2 Bc.out
                  obtain ⟨d0, d1, d2, d3⟩ := cells2 Bd.out
                  cases o1
                  · go_wp2_with fail
                    refine (HO2.out _).mono ?_
                    rintro _ z2 ⟨rfl, hg⟩
                    clear a0 a1 a2 a3 b0 b1 b2 b3 c0 c1 c2 c3 d0 d1 d2 d3
                    have Ba' := Lib.hid (hg.block Ba.out)
                    have Bb' := Lib.hid (hg.block Bb.out)
                    have Bc' := Lib.hid (hg.block Bc.out)
                    have Bd' := Lib.hid (hg.block Bd.out)
                    have G' := Lib.hid (G.out.trans hg)
                    clear Ba Bb Bc Bd G
                    have Ba := Ba'
                    have Bb := Bb'
                    have Bc := Bc'
                    have Bd := Bd'
                    have G := G'
                    clear Ba' Bb' Bc' Bd' G'
                    have Gm := Lib.hid (Gm.out.trans hg)
                    clear hg
                    obtain ⟨a0, a1, a2, a3⟩ := cells2 Ba.out
                    obtain ⟨b0, b1, b2, b3⟩ := cells2 Bb.out
                    obtain ⟨c0, c1, c2, c3⟩ := cells2 Bc.out
                    obtain ⟨d0, d1, d2, d3⟩ := cells2 Bd.out
                    cases o2
                    · go_wp2_with fail
                      refine (HO3.out _).mono ?_
                      rintro _ z3 ⟨rfl, hg⟩
                      clear a0 a1 a2 a3 b0 b1 b2 b3 c0 c1 c2 c3 d0 d1 d2 d3
                      have Ba' := Lib.hid (hg.block Ba.out)
                      have Bb' := Lib.hid (hg.block Bb.out)
                      have Bc' := Lib.hid (hg.block Bc.out)
                      have Bd' := Lib.hid (hg.block Bd.out)
                      have G' := Lib.hid (G.out.trans hg)
                      clear Ba Bb Bc Bd G
                      have Ba := Ba'
                      have Bb := Bb'
                      have Bc := Bc'
                      have Bd := Bd'
                      have G := G'
                      clear Ba' Bb' Bc' Bd' G'
                      have Gm := Lib.hid (Gm.out.trans hg)
                      clear hg
                      obtain ⟨a0, a1, a2, a3⟩ := cells2 Ba.out
                      obtain ⟨b0, b1, b2, b3⟩ := cells2 Bb.out
                      obtain ⟨c0, c1, c2, c3⟩ := cells2 Bc.out
                      obtain ⟨d0, d1, d2, d3⟩ := cells2 Bd.out
                      cases o3
                      · go_wp2_with fail
                        refine (HO4.out _).mono ?_
                        rintro _ z4 ⟨rfl, hg⟩
                        clear a0 a1 a2 a3 b0 b1 b2 b3 c0 c1 c2 c3 d0 d1 d2 d3
                        have Ba' := Lib.hid (hg.block Ba.out)
                        have Bb' := Lib.hid (hg.block Bb.out)
                        have Bc' := Lib.hid (hg.block Bc.out)
                        have Bd' := Lib.hid (hg.block Bd.out)
                        have G' := Lib.hid (G.out.trans hg)
                        clear Ba Bb Bc Bd G
                        have Ba := Ba'
                        have Bb := Bb'
                        have Bc := Bc'
                        have Bd := Bd'
                        have G := G'
                        clear Ba' Bb' Bc' Bd' G'
                        have Gm := Lib.hid (Gm.out.trans hg)
                        clear hg
                        obtain ⟨a0, a1, a2, a3⟩ := cells2 Ba.out
                        obtain ⟨b0, b1, b2, b3⟩ := cells2 Bb.out
                        obtain ⟨c0, c1, c2, c3⟩ := cells2 Bc.out
                        obtain ⟨d0, d1, d2, d3⟩ := cells2 Bd.out
                        go_wp2
                        go_meet
                        exact ⟨by simp, Gm.out⟩
                      · go_wp2
                        go_meet
                        exact ⟨by simp, Gm.out⟩
                    · go_wp2
                      go_meet
                      exact ⟨by simp, Gm.out⟩
                  · go_wp2
                    go_meet
                    exact ⟨by simp, Gm.out⟩
                case rest =>
                  obtain ⟨hv, hgc⟩ := hcut
                  clear a0 a1 a2 a3 b0 b1 b2 b3 c0 c1 c2 c3 d0 d1 d2 d3
                  have Ba' := Lib.hid (hgc.block Ba.out)
                  have Bb' := Lib.hid (hgc.block Bb.out)
                  have Bc' := Lib.hid (hgc.block Bc.out)
                  have Bd' := Lib.hid (hgc.block Bd.out)
                  have G' := Lib.hid (G.out.trans hgc)
                  clear Ba Bb Bc Bd G
                  have Ba := Ba'
                  have Bb := Bb'
                  have Bc := Bc'
                  have Bd := Bd'
                  have G := G'
                  clear Ba' Bb' Bc' Bd' G'
                  clear hgc
                  obtain ⟨a0, a1, a2, a3⟩ := cells2 Ba.out
                  obtain ⟨b0, b1, b2, b3⟩ := cells2 Bb.out
                  obtain ⟨c0, c1, c2, c3⟩ := cells2 Bc.out
                  obtain ⟨d0, d1, d2, d3⟩ := cells2 Bd.out
                  have h4 : (o1 || o2 || o3 || o4) = decide (o1 = true ∨ o2 = true ∨ o3 = true ∨ o4 = true) := by cases o1 <;> cases o2 <;> cases o3 <;> cases o4 <;> rfl
                  rw [h4] at hv
                  clear h4
                  by_cases ho : o1 = true ∨ o2 = true ∨ o3 = true ∨ o4 = true
                  · rw [decide_eq_true ho] at hv
                    subst hv
                    have HF3 := Lib.hid (HF2.out.trans (if_pos ho))
                    clear ho
                    go_wp2
                    go_ret2
                    exact ⟨by rw [HCL.out, HF3.out]; rfl, G.out⟩
                  · rw [decide_eq_false ho] at hv
                    subst hv
                    have HF3 := Lib.hid (HF2.out.trans (if_neg ho))
                    clear ho
                    have K3 := HK3
                    have K4 := HK4
                    by_cases hlt : sc * sd < 0
                    · by_cases hlt2 : sa * sb < 0
                      · have HF4 := Lib.hid (HF3.out.trans (if_pos ⟨hlt, hlt2⟩))
                        have HF : Hid (∀ w', Grows wc w' → _) := Lib.hid (fun w' (hg : Grows wc w') => And.intro (cells2 (hg.block Ba.out)) (And.intro (cells2 (hg.block Bb.out)) (And.intro (cells2 (hg.block Bc.out)) (cells2 (hg.block Bd.out)))))
                        clear a0 a1 a2 a3 b0 b1 b2 b3 c0 c1 c2 c3 d0 d1 d2 d3
                        go_wp2_with fail
                        refine wp_region_tab 16 (by kernel_rfl) (by kernel_rfl) ?_
                        intro w0 hw0 hg1 hg1'
                        simp only [List.take_succ_cons, List.take_zero, List.drop_succ_cons, List.drop_zero]
                        refine tab_val (.int .i64 sc) (fun r w1 hr hg hA => by obtain ⟨q0, -⟩ := hA; have q0e : r (.tmp 10) = .int .i64 sc := q0; exact ⟨rfl, by simp [go_sem, q0e]⟩) ?_
                        refine tab_val (.int .i64 sd) (fun r w1 hr hg hA => by obtain ⟨q0, -⟩ := hA; have q0e : r (.tmp 11) = .int .i64 sd := q0; exact ⟨rfl, by simp [go_sem, q0e]⟩) ?_
                        refine tab_val (.int .i64 (sc * sd)) (fun r w1 hr hg hA => by obtain ⟨⟨_, q0⟩, ⟨_, q1⟩, -⟩ := hA; have q0e : r (.tmp 86) = .int .i64 sc := q0; have q1e : r (.tmp 87) = .int .i64 sd := q1; exact ⟨rfl, by simp [go_sem, q0e, q1e, HM1.out]⟩) ?_
                        refine tab_val (.bool true) (fun r w1 hr hg hA => by obtain ⟨⟨_, q0⟩, -⟩ := hA; have q0e : r (.tmp 88) = .int .i64 (sc * sd) := q0; exact ⟨rfl, by simp [go_sem, hr.const, q0e, hlt]⟩) ?_
                        refine tab_val (.bool true) (fun r w1 hr hg hA => by obtain ⟨⟨_, q0⟩, -⟩ := hA; have q0e : r (.tmp 89) = .bool true := q0; exact ⟨rfl, by simp [go_sem, q0e]⟩) ?_
                        refine tab_val (.agg #[.int .i64 cx, .int .i64 cy]) (fun r w1 hr hg hA => by obtain ⟨q0, ⟨_, q1⟩, -⟩ := hA; have q0e : r (.tmp 6) = .pointer (some ⟨w.heap.size + 1 + 1, 0, none⟩) := q0; have q1e : r (.tmp 90) = .bool true := q1; have hc := HF.out w1 (hg1.trans hg); exact ⟨⟨_, q1e, rfl⟩, by simp [go_sem, q0e, hc]⟩) ?_
                        refine tab_val (.agg #[.int .i64 dx, .int .i64 dy]) (fun r w1 hr hg hA => by obtain ⟨q0, ⟨_, q1⟩, -⟩ := hA; have q0e : r (.tmp 7) = .pointer (some ⟨w.heap.size + 1 + 1 + 1, 0, none⟩) := q0; have q1e : r (.tmp 90) = .bool true := q1; have hc := HF.out w1 (hg1.trans hg); exact ⟨⟨_, q1e, rfl⟩, by simp [go_sem, q0e, hc]⟩) ?_
                        refine tab_val (.agg #[.int .i64 ax, .int .i64 ay]) (fun r w1 hr hg hA => by obtain ⟨q0, ⟨_, q1⟩, -⟩ := hA; have q0e : r (.tmp 4) = .pointer (some ⟨w.heap.size, 0, none⟩) := q0; have q1e : r (.tmp 90) = .bool true := q1; have hc := HF.out w1 (hg1.trans hg); exact ⟨⟨_, q1e, rfl⟩, by simp [go_sem, q0e, hc]⟩) ?_
                        refine tab_call (v := .int .i64 sa) (fun w1 hg => K3.out w1) (fun r w1 hr hg hA => by obtain ⟨⟨_, q0⟩, ⟨_, q1⟩, ⟨_, q2⟩, ⟨_, q3⟩, -⟩ := hA; have q0e : r (.tmp 91) = .agg #[.int .i64 cx, .int .i64 cy] := q0; have q1e : r (.tmp 92) = .agg #[.int .i64 dx, .int .i64 dy] := q1; have q2e : r (.tmp 93) = .agg #[.int .i64 ax, .int .i64 ay] := q2; have q3e : r (.tmp 90) = .bool true := q3; exact ⟨⟨_, q3e, rfl⟩, by simp [go_sem, hr.func, q0e, q1e, q2e]⟩) ?_
                        refine tab_val (.agg #[.int .i64 cx, .int .i64 cy]) (fun r w1 hr hg hA => by obtain ⟨q0, ⟨_, q1⟩, -⟩ := hA; have q0e : r (.tmp 6) = .pointer (some ⟨w.heap.size + 1 + 1, 0, none⟩) := q0; have q1e : r (.tmp 90) = .bool true := q1; have hc := HF.out w1 (hg1.trans hg); exact ⟨⟨_, q1e, rfl⟩, by simp [go_sem, q0e, hc]⟩) ?_
                        refine tab_val (.agg #[.int .i64 dx, .int .i64 dy]) (fun r w1 hr hg hA => by obtain ⟨q0, ⟨_, q1⟩, -⟩ := hA; have q0e : r (.tmp 7) = .pointer (some ⟨w.heap.size + 1 + 1 + 1, 0, none⟩) := q0; have q1e : r (.tmp 90) = .bool true := q1; have hc := HF.out w1 (hg1.trans hg); exact ⟨⟨_, q1e, rfl⟩, by simp [go_sem, q0e, hc]⟩) ?_
                        refine tab_val (.agg #[.int .i64 bx, .int .i64 b_y]) (fun r w1 hr hg hA => by obtain ⟨q0, ⟨_, q1⟩, -⟩ := hA; have q0e : r (.tmp 5) = .pointer (some ⟨w.heap.size + 1, 0, none⟩) := q0; have q1e : r (.tmp 90) = .bool true := q1; have hc := HF.out w1 (hg1.trans hg); exact ⟨⟨_, q1e, rfl⟩, by simp [go_sem, q0e, hc]⟩) ?_
                        refine tab_call (v := .int .i64 sb) (fun w1 hg => K4.out w1) (fun r w1 hr hg hA => by obtain ⟨⟨_, q0⟩, ⟨_, q1⟩, ⟨_, q2⟩, ⟨_, q3⟩, -⟩ := hA; have q0e : r (.tmp 95) = .agg #[.int .i64 cx, .int .i64 cy] := q0; have q1e : r (.tmp 96) = .agg #[.int .i64 dx, .int .i64 dy] := q1; have q2e : r (.tmp 97) = .agg #[.int .i64 bx, .int .i64 b_y] := q2; have q3e : r (.tmp 90) = .bool true := q3; exact ⟨⟨_, q3e, rfl⟩, by simp [go_sem, hr.func, q0e, q1e, q2e]⟩) ?_
                        refine tab_val (.int .i64 (sa * sb)) (fun r w1 hr hg hA => by obtain ⟨⟨_, q0⟩, ⟨_, q1⟩, ⟨_, q2⟩, -⟩ := hA; have q0e : r (.tmp 94) = .int .i64 sa := q0; have q1e : r (.tmp 98) = .int .i64 sb := q1; have q2e : r (.tmp 90) = .bool true := q2; exact ⟨⟨_, q2e, rfl⟩, by simp [go_sem, q0e, q1e, HM2.out]⟩) ?_
                        refine tab_val (.bool true) (fun r w1 hr hg hA => by obtain ⟨⟨_, q0⟩, ⟨_, q1⟩, -⟩ := hA; have q0e : r (.tmp 99) = .int .i64 (sa * sb) := q0; have q1e : r (.tmp 90) = .bool true := q1; exact ⟨⟨_, q1e, rfl⟩, by simp [go_sem, hr.const, q0e, hlt2]⟩) ?_
                        refine tab_val (.bool true) (fun r w1 hr hg hA => by obtain ⟨⟨_, q0⟩, ⟨_, q1⟩, -⟩ := hA; have q0e : r (.tmp 90) = .bool true := q0; have q1e : r (.tmp 100) = .bool true := q1; exact ⟨rfl, by simp [go_sem, q0e, q1e]⟩) ?_
                        refine tab_end ?_
                        simp only [List.reverse_cons, List.reverse_nil, List.nil_append, List.cons_append, Out, BlockP, forall_eq, forall_const, Act.put, List.setIfInBounds_toArray, List.set_cons_succ, List.set_cons_zero]
                        intro w9 hgA
                        have hgB := hg1.trans hgA
                        have Ba' := Lib.hid (hgB.block Ba.out)
                        have Bb' := Lib.hid (hgB.block Bb.out)
                        have Bc' := Lib.hid (hgB.block Bc.out)
                        have Bd' := Lib.hid (hgB.block Bd.out)
                        have G' := Lib.hid (G.out.trans hgB)
                        clear Ba Bb Bc Bd G
                        have Ba := Ba'
                        have Bb := Bb'
                        have Bc := Bc'
                        have Bd := Bd'
                        have G := G'
                        clear Ba' Bb' Bc' Bd' G'
                        clear hg1 hgA hg1' hw0 hgB HF
                        obtain ⟨a0, a1, a2, a3⟩ := cells2 Ba.out
                        obtain ⟨b0, b1, b2, b3⟩ := cells2 Bb.out
                        obtain ⟨c0, c1, c2, c3⟩ := cells2 Bc.out
                        obtain ⟨d0, d1, d2, d3⟩ := cells2 Bd.out
                        go_wp2
                        go_ret2
                        exact ⟨by rw [HCL.out, HF4.out]; rfl, G.out⟩
                      · have HF4 := Lib.hid (HF3.out.trans (if_neg (fun h => hlt2 h.2)))
                        have HF : Hid (∀ w', Grows wc w' → _) := Lib.hid (fun w' (hg : Grows wc w') => And.intro (cells2 (hg.block Ba.out)) (And.intro (cells2 (hg.block Bb.out)) (And.intro (cells2 (hg.block Bc.out)) (cells2 (hg.block Bd.out)))))
                        clear a0 a1 a2 a3 b0 b1 b2 b3 c0 c1 c2 c3 d0 d1 d2 d3
                        go_wp2_with fail
                        refine wp_region_tab 16 (by kernel_rfl) (by kernel_rfl) ?_
                        intro w0 hw0 hg1 hg1'
                        simp only [List.take_succ_cons, List.take_zero, List.drop_succ_cons, List.drop_zero]
                        refine tab_val (.int .i64 sc) (fun r w1 hr hg hA => by obtain ⟨q0, -⟩ := hA; have q0e : r (.tmp 10) = .int .i64 sc := q0; exact ⟨rfl, by simp [go_sem, q0e]⟩) ?_
                        refine tab_val (.int .i64 sd) (fun r w1 hr hg hA => by obtain ⟨q0, -⟩ := hA; have q0e : r (.tmp 11) = .int .i64 sd := q0; exact ⟨rfl, by simp [go_sem, q0e]⟩) ?_
                        refine tab_val (.int .i64 (sc * sd)) (fun r w1 hr hg hA => by obtain ⟨⟨_, q0⟩, ⟨_, q1⟩, -⟩ := hA; have q0e : r (.tmp 86) = .int .i64 sc := q0; have q1e : r (.tmp 87) = .int .i64 sd := q1; exact ⟨rfl, by simp [go_sem, q0e, q1e, HM1.out]⟩) ?_
                        refine tab_val (.bool true) (fun r w1 hr hg hA => by obtain ⟨⟨_, q0⟩, -⟩ := hA; have q0e : r (.tmp 88) = .int .i64 (sc * sd) := q0; exact ⟨rfl, by simp [go_sem, hr.const, q0e, hlt]⟩) ?_
                        refine tab_val (.bool true) (fun r w1 hr hg hA => by obtain ⟨⟨_, q0⟩, -⟩ := hA; have q0e : r (.tmp 89) = .bool true := q0; exact ⟨rfl, by simp [go_sem, q0e]⟩) ?_
                        refine tab_val (.agg #[.int .i64 cx, .int .i64 cy]) (fun r w1 hr hg hA => by obtain ⟨q0, ⟨_, q1⟩, -⟩ := hA; have q0e : r (.tmp 6) = .pointer (some ⟨w.heap.size + 1 + 1, 0, none⟩) := q0; have q1e : r (.tmp 90) = .bool true := q1; have hc := HF.out w1 (hg1.trans hg); exact ⟨⟨_, q1e, rfl⟩, by simp [go_sem, q0e, hc]⟩) ?_
                        refine tab_val (.agg #[.int .i64 dx, .int .i64 dy]) (fun r w1 hr hg hA => by obtain ⟨q0, ⟨_, q1⟩, -⟩ := hA; have q0e : r (.tmp 7) = .pointer (some ⟨w.heap.size + 1 + 1 + 1, 0, none⟩) := q0; have q1e : r (.tmp 90) = .bool true := q1; have hc := HF.out w1 (hg1.trans hg); exact ⟨⟨_, q1e, rfl⟩, by simp [go_sem, q0e, hc]⟩) ?_
                        refine tab_val (.agg #[.int .i64 ax, .int .i64 ay]) (fun r w1 hr hg hA => by obtain ⟨q0, ⟨_, q1⟩, -⟩ := hA; have q0e : r (.tmp 4) = .pointer (some ⟨w.heap.size, 0, none⟩) := q0; have q1e : r (.tmp 90) = .bool true := q1; have hc := HF.out w1 (hg1.trans hg); exact ⟨⟨_, q1e, rfl⟩, by simp [go_sem, q0e, hc]⟩) ?_
                        refine tab_call (v := .int .i64 sa) (fun w1 hg => K3.out w1) (fun r w1 hr hg hA => by obtain ⟨⟨_, q0⟩, ⟨_, q1⟩, ⟨_, q2⟩, ⟨_, q3⟩, -⟩ := hA; have q0e : r (.tmp 91) = .agg #[.int .i64 cx, .int .i64 cy] := q0; have q1e : r (.tmp 92) = .agg #[.int .i64 dx, .int .i64 dy] := q1; have q2e : r (.tmp 93) = .agg #[.int .i64 ax, .int .i64 ay] := q2; have q3e : r (.tmp 90) = .bool true := q3; exact ⟨⟨_, q3e, rfl⟩, by simp [go_sem, hr.func, q0e, q1e, q2e]⟩) ?_
                        refine tab_val (.agg #[.int .i64 cx, .int .i64 cy]) (fun r w1 hr hg hA => by obtain ⟨q0, ⟨_, q1⟩, -⟩ := hA; have q0e : r (.tmp 6) = .pointer (some ⟨w.heap.size + 1 + 1, 0, none⟩) := q0; have q1e : r (.tmp 90) = .bool true := q1; have hc := HF.out w1 (hg1.trans hg); exact ⟨⟨_, q1e, rfl⟩, by simp [go_sem, q0e, hc]⟩) ?_
                        refine tab_val (.agg #[.int .i64 dx, .int .i64 dy]) (fun r w1 hr hg hA => by obtain ⟨q0, ⟨_, q1⟩, -⟩ := hA; have q0e : r (.tmp 7) = .pointer (some ⟨w.heap.size + 1 + 1 + 1, 0, none⟩) := q0; have q1e : r (.tmp 90) = .bool true := q1; have hc := HF.out w1 (hg1.trans hg); exact ⟨⟨_, q1e, rfl⟩, by simp [go_sem, q0e, hc]⟩) ?_
                        refine tab_val (.agg #[.int .i64 bx, .int .i64 b_y]) (fun r w1 hr hg hA => by obtain ⟨q0, ⟨_, q1⟩, -⟩ := hA; have q0e : r (.tmp 5) = .pointer (some ⟨w.heap.size + 1, 0, none⟩) := q0; have q1e : r (.tmp 90) = .bool true := q1; have hc := HF.out w1 (hg1.trans hg); exact ⟨⟨_, q1e, rfl⟩, by simp [go_sem, q0e, hc]⟩) ?_
                        refine tab_call (v := .int .i64 sb) (fun w1 hg => K4.out w1) (fun r w1 hr hg hA => by obtain ⟨⟨_, q0⟩, ⟨_, q1⟩, ⟨_, q2⟩, ⟨_, q3⟩, -⟩ := hA; have q0e : r (.tmp 95) = .agg #[.int .i64 cx, .int .i64 cy] := q0; have q1e : r (.tmp 96) = .agg #[.int .i64 dx, .int .i64 dy] := q1; have q2e : r (.tmp 97) = .agg #[.int .i64 bx, .int .i64 b_y] := q2; have q3e : r (.tmp 90) = .bool true := q3; exact ⟨⟨_, q3e, rfl⟩, by simp [go_sem, hr.func, q0e, q1e, q2e]⟩) ?_
                        refine tab_val (.int .i64 (sa * sb)) (fun r w1 hr hg hA => by obtain ⟨⟨_, q0⟩, ⟨_, q1⟩, ⟨_, q2⟩, -⟩ := hA; have q0e : r (.tmp 94) = .int .i64 sa := q0; have q1e : r (.tmp 98) = .int .i64 sb := q1; have q2e : r (.tmp 90) = .bool true := q2; exact ⟨⟨_, q2e, rfl⟩, by simp [go_sem, q0e, q1e, HM2.out]⟩) ?_
                        refine tab_val (.bool false) (fun r w1 hr hg hA => by obtain ⟨⟨_, q0⟩, ⟨_, q1⟩, -⟩ := hA; have q0e : r (.tmp 99) = .int .i64 (sa * sb) := q0; have q1e : r (.tmp 90) = .bool true := q1; exact ⟨⟨_, q1e, rfl⟩, by simp [go_sem, hr.const, q0e, hlt2]⟩) ?_
                        refine tab_val (.bool false) (fun r w1 hr hg hA => by obtain ⟨⟨_, q0⟩, ⟨_, q1⟩, -⟩ := hA; have q0e : r (.tmp 90) = .bool true := q0; have q1e : r (.tmp 100) = .bool false := q1; exact ⟨rfl, by simp [go_sem, q0e, q1e]⟩) ?_
                        refine tab_end ?_
                        simp only [List.reverse_cons, List.reverse_nil, List.nil_append, List.cons_append, Out, BlockP, forall_eq, forall_const, Act.put, List.setIfInBounds_toArray, List.set_cons_succ, List.set_cons_zero]
                        intro w9 hgA
                        have hgB := hg1.trans hgA
                        have Ba' := Lib.hid (hgB.block Ba.out)
                        have Bb' := Lib.hid (hgB.block Bb.out)
                        have Bc' := Lib.hid (hgB.block Bc.out)
                        have Bd' := Lib.hid (hgB.block Bd.out)
                        have G' := Lib.hid (G.out.trans hgB)
                        clear Ba Bb Bc Bd G
                        have Ba := Ba'
                        have Bb := Bb'
                        have Bc := Bc'
                        have Bd := Bd'
                        have G := G'
                        clear Ba' Bb' Bc' Bd' G'
                        clear hg1 hgA hg1' hw0 hgB HF
                        obtain ⟨a0, a1, a2, a3⟩ := cells2 Ba.out
                        obtain ⟨b0, b1, b2, b3⟩ := cells2 Bb.out
                        obtain ⟨c0, c1, c2, c3⟩ := cells2 Bc.out
                        obtain ⟨d0, d1, d2, d3⟩ := cells2 Bd.out
                        go_wp2
                        go_ret2
                        exact ⟨by rw [HCL.out, HF4.out]; rfl, G.out⟩
                    · have HF4 := Lib.hid (HF3.out.trans (if_neg (fun h => hlt h.1)))
                      have HF : Hid (∀ w', Grows wc w' → _) := Lib.hid (fun w' (hg : Grows wc w') => And.intro (cells2 (hg.block Ba.out)) (And.intro (cells2 (hg.block Bb.out)) (And.intro (cells2 (hg.block Bc.out)) (cells2 (hg.block Bd.out)))))
                      clear a0 a1 a2 a3 b0 b1 b2 b3 c0 c1 c2 c3 d0 d1 d2 d3
                      go_wp2_with fail
                      refine wp_region_tab 16 (by kernel_rfl) (by kernel_rfl) ?_
                      intro w0 hw0 hg1 hg1'
                      simp only [List.take_succ_cons, List.take_zero, List.drop_succ_cons, List.drop_zero]
                      refine tab_val (.int .i64 sc) (fun r w1 hr hg hA => by obtain ⟨q0, -⟩ := hA; have q0e : r (.tmp 10) = .int .i64 sc := q0; exact ⟨rfl, by simp [go_sem, q0e]⟩) ?_
                      refine tab_val (.int .i64 sd) (fun r w1 hr hg hA => by obtain ⟨q0, -⟩ := hA; have q0e : r (.tmp 11) = .int .i64 sd := q0; exact ⟨rfl, by simp [go_sem, q0e]⟩) ?_
                      refine tab_val (.int .i64 (sc * sd)) (fun r w1 hr hg hA => by obtain ⟨⟨_, q0⟩, ⟨_, q1⟩, -⟩ := hA; have q0e : r (.tmp 86) = .int .i64 sc := q0; have q1e : r (.tmp 87) = .int .i64 sd := q1; exact ⟨rfl, by simp [go_sem, q0e, q1e, HM1.out]⟩) ?_
                      refine tab_val (.bool false) (fun r w1 hr hg hA => by obtain ⟨⟨_, q0⟩, -⟩ := hA; have q0e : r (.tmp 88) = .int .i64 (sc * sd) := q0; exact ⟨rfl, by simp [go_sem, hr.const, q0e, hlt]⟩) ?_
                      refine tab_val (.bool false) (fun r w1 hr hg hA => by obtain ⟨⟨_, q0⟩, -⟩ := hA; have q0e : r (.tmp 89) = .bool false := q0; exact ⟨rfl, by simp [go_sem, q0e]⟩) ?_
                      refine tab_skip (fun r w1 hr hg hA => by obtain ⟨q0, ⟨_, q1⟩, -⟩ := hA; have q0e : r (.tmp 6) = .pointer (some ⟨w.heap.size + 1 + 1, 0, none⟩) := q0; have q1e : r (.tmp 90) = .bool false := q1; exact ⟨_, q1e, rfl⟩) ?_
                      refine tab_skip (fun r w1 hr hg hA => by obtain ⟨q0, ⟨_, q1⟩, -⟩ := hA; have q0e : r (.tmp 7) = .pointer (some ⟨w.heap.size + 1 + 1 + 1, 0, none⟩) := q0; have q1e : r (.tmp 90) = .bool false := q1; exact ⟨_, q1e, rfl⟩) ?_
                      refine tab_skip (fun r w1 hr hg hA => by obtain ⟨q0, ⟨_, q1⟩, -⟩ := hA; have q0e : r (.tmp 4) = .pointer (some ⟨w.heap.size, 0, none⟩) := q0; have q1e : r (.tmp 90) = .bool false := q1; exact ⟨_, q1e, rfl⟩) ?_
                      refine tab_skip (fun r w1 hr hg hA => by obtain ⟨⟨_, q0⟩, ⟨_, q1⟩, ⟨_, q2⟩, ⟨_, q3⟩, -⟩ := hA; have q0e : r (.tmp 91) = undef := q0; have q1e : r (.tmp 92) = undef := q1; have q2e : r (.tmp 93) = undef := q2; have q3e : r (.tmp 90) = .bool false := q3; exact ⟨_, q3e, rfl⟩) ?_
                      refine tab_skip (fun r w1 hr hg hA => by obtain ⟨q0, ⟨_, q1⟩, -⟩ := hA; have q0e : r (.tmp 6) = .pointer (some ⟨w.heap.size + 1 + 1, 0, none⟩) := q0; have q1e : r (.tmp 90) = .bool false := q1; exact ⟨_, q1e, rfl⟩) ?_
                      refine tab_skip (fun r w1 hr hg hA => by obtain ⟨q0, ⟨_, q1⟩, -⟩ := hA; have q0e : r (.tmp 7) = .pointer (some ⟨w.heap.size + 1 + 1 + 1, 0, none⟩) := q0; have q1e : r (.tmp 90) = .bool false := q1; exact ⟨_, q1e, rfl⟩) ?_
                      refine tab_skip (fun r w1 hr hg hA => by obtain ⟨q0, ⟨_, q1⟩, -⟩ := hA; have q0e : r (.tmp 5) = .pointer (some ⟨w.heap.size + 1, 0, none⟩) := q0; have q1e : r (.tmp 90) = .bool false := q1; exact ⟨_, q1e, rfl⟩) ?_
                      refine tab_skip (fun r w1 hr hg hA => by obtain ⟨⟨_, q0⟩, ⟨_, q1⟩, ⟨_, q2⟩, ⟨_, q3⟩, -⟩ := hA; have q0e : r (.tmp 95) = undef := q0; have q1e : r (.tmp 96) = undef := q1; have q2e : r (.tmp 97) = undef := q2; have q3e : r (.tmp 90) = .bool false := q3; exact ⟨_, q3e, rfl⟩) ?_
                      refine tab_skip (fun r w1 hr hg hA => by obtain ⟨⟨_, q0⟩, ⟨_, q1⟩, ⟨_, q2⟩, -⟩ := hA; have q0e : r (.tmp 94) = undef := q0; have q1e : r (.tmp 98) = undef := q1; have q2e : r (.tmp 90) = .bool false := q2; exact ⟨_, q2e, rfl⟩) ?_
                      refine tab_skip (fun r w1 hr hg hA => by obtain ⟨⟨_, q0⟩, ⟨_, q1⟩, -⟩ := hA; have q0e : r (.tmp 99) = undef := q0; have q1e : r (.tmp 90) = .bool false := q1; exact ⟨_, q1e, rfl⟩) ?_
                      refine tab_val (.bool false) (fun r w1 hr hg hA => by obtain ⟨⟨_, q0⟩, ⟨_, q1⟩, -⟩ := hA; have q0e : r (.tmp 90) = .bool false := q0; have q1e : r (.tmp 100) = undef := q1; exact ⟨rfl, by simp [go_sem, hr.const, q0e]⟩) ?_
                      refine tab_end ?_
                      simp only [List.reverse_cons, List.reverse_nil, List.nil_append, List.cons_append, Out, BlockP, forall_eq, forall_const, Act.put, List.setIfInBounds_toArray, List.set_cons_succ, List.set_cons_zero]
                      intro w9 hgA
                      have hgB := hg1.trans hgA
                      have Ba' := Lib.hid (hgB.block Ba.out)
                      have Bb' := Lib.hid (hgB.block Bb.out)
                      have Bc' := Lib.hid (hgB.block Bc.out)
                      have Bd' := Lib.hid (hgB.block Bd.out)
                      have G' := Lib.hid (G.out.trans hgB)
                      clear Ba Bb Bc Bd G
                      have Ba := Ba'
                      have Bb := Bb'
                      have Bc := Bc'
                      have Bd := Bd'
                      have G := G'
                      clear Ba' Bb' Bc' Bd' G'
                      clear hg1 hgA hg1' hw0 hgB HF
                      obtain ⟨a0, a1, a2, a3⟩ := cells2 Ba.out
                      obtain ⟨b0, b1, b2, b3⟩ := cells2 Bb.out
                      obtain ⟨c0, c1, c2, c3⟩ := cells2 Bc.out
                      obtain ⟨d0, d1, d2, d3⟩ := cells2 Bd.out
                      go_wp2
                      go_ret2
                      exact ⟨by rw [HCL.out, HF4.out]; rfl, G.out⟩
end Go.Proofs.Ytlgplhanhnjeiaa
