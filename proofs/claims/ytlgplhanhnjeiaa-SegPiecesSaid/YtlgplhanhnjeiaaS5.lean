/-
  Layer 2: the document's class of two segments.
-/
import Derived.Test.YtlgplhanhnjeiaaS4
namespace Go.Proofs.Ytlgplhanhnjeiaa
open Go.RowKit Go.Tab

def eqP (x y u v : Int) : Bool := decide (x = u ∧ y = v)
theorem eqIf2 {w : World} {x y u v : Int} : (if x = u then if y = v then Result.ok (Next.value (Value.bool true)) w else Result.ok (Next.value (Value.bool false)) w else Result.ok (Next.value (Value.bool false)) w) = Result.ok (Next.value (Value.bool (eqP x y u v))) w := by
  unfold eqP
  by_cases h1 : x = u
  · by_cases h2 : y = v
    · rw [if_pos h1, if_pos h2, decide_eq_true ⟨h1, h2⟩]
    · rw [if_pos h1, if_neg h2, decide_eq_false (fun h => h2 h.2)]
  · rw [if_neg h1, decide_eq_false (fun h => h1 h.1)]
/-- How many of the first ones. -/
def cnt (p q : Bool) : Nat → Int
  | 0 => 0
  | 1 => bi p
  | _ => bi p + bi q
theorem cnt_bd (p q : Bool) (k : Nat) : 0 ≤ cnt p q k ∧ cnt p q k ≤ 2 := by
  match k with
  | 0 => simp [cnt]
  | 1 => cases p <;> simp [cnt, bi]
  | k + 2 => cases p <;> cases q <;> simp [cnt, bi]
theorem ron_pt {p q r : Pt} (hp : mayP p = true) (hq : mayP q = true) (hr : mayP r = true) (w : World) : Calls Try.prog 25 #[pp p, pp q, pp r] w (Ret (.bool (on p q r)) w) := by
  have h := ron_any p.1 p.2 q.1 q.2 r.1 r.2 w hp hq hr
  rw [← on_eq] at h
  exact h
theorem rcr_pt {p q r : Pt} (hp : mayP p = true) (hq : mayP q = true) (hr : mayP r = true) (w : World) : Calls Try.prog 20 #[pp p, pp q, pp r] w (Ret (.int .i64 (cr p q r)) w) := rcross_any' _ _ _ _ _ _ w hp hq hr
theorem cells4p {w : World} {b : Nat} {x y z u : Value} {T : TypeId} (h : w.heap[b]? = some (.cells #[x, y, z, u] T (0, 0))) :
    w.cell? ⟨b, 0, none⟩ = some x ∧ w.cell? ⟨b, 1, none⟩ = some y ∧ w.cell? ⟨b, 2, none⟩ = some z ∧ w.cell? ⟨b, 3, none⟩ = some u := by
  refine ⟨?_, ?_, ?_, ?_⟩ <;> simp [World.cell?, h]
theorem decide_eqP (x y u v s t : Int) : decide ((x = u ∧ y = v) ∨ (x = s ∧ y = t)) = (eqP x y u v || eqP x y s t) := by
  unfold eqP
  rw [Bool.eq_iff_iff]
  simp

set_option maxRecDepth 100000 in
set_option maxHeartbeats 8000000 in
theorem rclass_any (a b c d : Pt) (w : World) (ma : mayP a = true) (mb : mayP b = true) (mc : mayP c = true) (md : mayP d = true) : Calls Try.prog 11 #[pp a, pp b, pp c, pp d] w (Ret (.int .i64 (refF a b c d)) w) := by
  have HN1 := Lib.hid (ron_pt mc md ma)
  have HN2 := Lib.hid (ron_pt mc md mb)
  have HM1 := Lib.hid (ron_pt ma mb mc)
  have HM2 := Lib.hid (ron_pt ma mb md)
  have HK1 := Lib.hid (rcr_pt ma mb mc)
  have HK2 := Lib.hid (rcr_pt ma mb md)
  have HK3 := Lib.hid (rcr_pt mc md ma)
  have HK4 := Lib.hid (rcr_pt mc md mb)
  have HS := Lib.hid rsign_any
  have HV : Hid (refF a b c d = _) := Lib.hid (show refF a b c d = refN (decide ((a = c ∧ b = d) ∨ (a = d ∧ b = c))) (on c d a) (on c d b) (decide (a = c ∨ a = d)) (decide (b = c ∨ b = d)) (on a b c) (on a b d) (signI (cr a b c)) (signI (cr a b d)) (signI (cr c d a)) (signI (cr c d b)) from rfl)
  clear ma mb mc md
  generalize refF a b c d = rf at HV ⊢
  generalize on c d a = n1 at HN1 HV
  generalize on c d b = n2 at HN2 HV
  generalize on a b c = m1 at HM1 HV
  generalize on a b d = m2 at HM2 HV
  generalize cr a b c = C at HK1 HV
  generalize cr a b d = D at HK2 HV
  generalize cr c d a = A at HK3 HV
  generalize cr c d b = B at HK4 HV
  obtain ⟨ax, ay⟩ := a
  obtain ⟨bx, b_y⟩ := b
  obtain ⟨cx, cy⟩ := c
  obtain ⟨dx, dy⟩ := d
  unfold pp at HN1 HN2 HM1 HM2 HK1 HK2 HK3 HK4
  simp only [Prod.mk.injEq] at HN1 HN2 HM1 HM2 HK1 HK2 HK3 HK4 HV
  obtain ⟨e1, he1⟩ : ∃ e1, decide ((ax = cx ∧ ay = cy) ∨ ax = dx ∧ ay = dy) = e1 := ⟨_, rfl⟩
  obtain ⟨e2, he2⟩ : ∃ e2, decide ((bx = cx ∧ b_y = cy) ∨ bx = dx ∧ b_y = dy) = e2 := ⟨_, rfl⟩
  rw [he1, he2] at HV
  have HE1 := Lib.hid (he1.symm.trans (decide_eqP _ _ _ _ _ _))
  have HE2 := Lib.hid (he2.symm.trans (decide_eqP _ _ _ _ _ _))
  clear he1 he2
  go_enter Try.func11, Try.ntmps11
  go_upto_region 1 with (fail)
  generalize pp (ax, ay) = va
  generalize pp (bx, b_y) = vb
  generalize pp (cx, cy) = vc
  generalize pp (dx, dy) = vd
  obtain ⟨h0, h1, h2, h3⟩ := box4 (Grows.refl ((((w.alloc (.cells #[.int .i64 ax, .int .i64 ay] 28)).alloc (.cells #[.int .i64 bx, .int .i64 b_y] 28)).alloc (.cells #[.int .i64 cx, .int .i64 cy] 28)).alloc (.cells #[.int .i64 dx, .int .i64 dy] 28)))
  have G := Lib.hid (((((Grows.refl w).al (.cells #[.int .i64 ax, .int .i64 ay] 28)).al (.cells #[.int .i64 bx, .int .i64 b_y] 28)).al (.cells #[.int .i64 cx, .int .i64 cy] 28)).al (.cells #[.int .i64 dx, .int .i64 dy] 28))
  generalize (((w.alloc (.cells #[.int .i64 ax, .int .i64 ay] 28)).alloc (.cells #[.int .i64 bx, .int .i64 b_y] 28)).alloc (.cells #[.int .i64 cx, .int .i64 cy] 28)).alloc (.cells #[.int .i64 dx, .int .i64 dy] 28) = wk at h0 h1 h2 h3 G ⊢
  have Ba := Lib.hid h0
  have Bb := Lib.hid h1
  have Bc := Lib.hid h2
  have Bd := Lib.hid h3
  clear h0 h1 h2 h3
  obtain ⟨a0, a1, -, -⟩ := cells2 Ba.out
  obtain ⟨b0, b1, -, -⟩ := cells2 Bb.out
  obtain ⟨c0, c1, -, -⟩ := cells2 Bc.out
  obtain ⟨d0, d1, -, -⟩ := cells2 Bd.out
  go_cut [37] (fun v wx => v = .bool (decide (((ax = cx ∧ ay = cy) ∧ bx = dx ∧ b_y = dy) ∨ (ax = dx ∧ ay = dy) ∧ bx = cx ∧ b_y = cy)) ∧ wx = wk)
  case first =>
    go_wp2_with fail
    all_goals
      go_meet
      first
        | exact ⟨congrArg Value.bool (decide_eq_true (by omega)).symm, rfl⟩
        | exact ⟨congrArg Value.bool (decide_eq_false (by omega)).symm, rfl⟩
  case rest =>
    obtain ⟨hv, hwc⟩ := hcut
    have hwc := hwc.symm
    subst hwc
    by_cases hq : ((ax = cx ∧ ay = cy) ∧ bx = dx ∧ b_y = dy) ∨ (ax = dx ∧ ay = dy) ∧ bx = cx ∧ b_y = cy
    · rw [decide_eq_true hq] at hv
      subst hv
      have HR := Lib.hid (show rf = 5 from HV.out.trans (by rw [decide_eq_true hq]; unfold refN; rw [if_pos rfl]))
      clear hq
      go_wp2
      go_ret
      exact ⟨by rw [HR.out]; rfl, G.out⟩
    · rw [decide_eq_false hq] at hv
      subst hv
      have HR := Lib.hid (HV.out.trans (by rw [decide_eq_false hq]))
      clear hq HV
      go_upto_region 5 with (fail)
      have hL := heap_new wk (.cells #[.int .i64 ax, .int .i64 ay, .int .i64 bx, .int .i64 b_y] 28) _ rfl
      have HBa := Lib.hid ((Grows.alloc wk (.cells #[.int .i64 ax, .int .i64 ay, .int .i64 bx, .int .i64 b_y] 28)).block Ba.out)
      have HBb := Lib.hid ((Grows.alloc wk (.cells #[.int .i64 ax, .int .i64 ay, .int .i64 bx, .int .i64 b_y] 28)).block Bb.out)
      have HBc := Lib.hid ((Grows.alloc wk (.cells #[.int .i64 ax, .int .i64 ay, .int .i64 bx, .int .i64 b_y] 28)).block Bc.out)
      have HBd := Lib.hid ((Grows.alloc wk (.cells #[.int .i64 ax, .int .i64 ay, .int .i64 bx, .int .i64 b_y] 28)).block Bd.out)
      have GL := Lib.hid (G.out.al (.cells #[.int .i64 ax, .int .i64 ay, .int .i64 bx, .int .i64 b_y] 28))
      generalize wk.alloc (.cells #[.int .i64 ax, .int .i64 ay, .int .i64 bx, .int .i64 b_y] 28) = wl at hL HBa HBb HBc HBd GL ⊢
      generalize wk.heap.size = bl at hL ⊢
      have HF : Hid (∀ w', Grows wl w' → _) := Lib.hid (fun w' (hg : Grows wl w') => And.intro (cells2 (hg.block HBa.out)) (And.intro (cells2 (hg.block HBb.out)) (And.intro (cells2 (hg.block HBc.out)) (And.intro (cells2 (hg.block HBd.out)) (cells4p (hg.block hL))))))
      have HGL := Lib.hid GL
      clear G Ba Bb Bc Bd a0 a1 b0 b1 c0 c1 d0 d1 GL hL
      go_wp2_with fail
      go_loopw [9, 10, 12] (fun n0 t0 i wr => ∃ k : Nat, k ≤ 2 ∧ n0 = .int .i64 (cnt n1 n2 k) ∧ t0 = .int .i64 (cnt (n1 && e1) (n2 && e2) k) ∧ i = .int .i64 (k : Int) ∧ Hid (Grows wl wr)) (fun _ _ i _ => 2 - (intOf i).toNat)
      case atStart => exact ⟨0, by omega, rfl, rfl, rfl, Lib.hid (Grows.refl _)⟩
      case round =>
        obtain ⟨k, hk, rfl, rfl, rfl, HG⟩ := hrel
        have hk3 : k = 0 ∨ k = 1 ∨ k = 2 := by omega
        clear hk
        rcases hk3 with rfl | rfl | rfl
        · go_wp2_with fail
          cases n1
          · refine wp_region_tab 7 (by kernel_rfl) (by kernel_rfl) ?_
            intro w0 hw0 hg1 hg1'
            simp only [List.take_succ_cons, List.take_zero, List.drop_succ_cons, List.drop_zero]
            refine tab_val (.agg #[.int .i64 cx, .int .i64 cy]) (fun r w1 hr hg hA => by obtain ⟨q0, -⟩ := hA; have q0e : r (.tmp 6) = .pointer (some ⟨w.heap.size + 1 + 1, 0, none⟩) := q0; have hc := HF.out w1 (HG.out.trans (hg1.trans hg)); exact ⟨rfl, by simp [go_sem, q0e, hc]⟩) ?_
            refine tab_val (.agg #[.int .i64 dx, .int .i64 dy]) (fun r w1 hr hg hA => by obtain ⟨q0, -⟩ := hA; have q0e : r (.tmp 7) = .pointer (some ⟨w.heap.size + 1 + 1 + 1, 0, none⟩) := q0; have hc := HF.out w1 (HG.out.trans (hg1.trans hg)); exact ⟨rfl, by simp [go_sem, q0e, hc]⟩) ?_
            refine tab_val (.slice (some ⟨bl, 0, none⟩) 2 2) (fun r w1 hr hg hA => by obtain ⟨q0, -⟩ := hA; have q0e : r (.tmp 11) = .slice (some ⟨bl, 0, none⟩) 2 2 := q0; exact ⟨rfl, by simp [go_sem, q0e]⟩) ?_
            refine tab_val (.int .i64 ((0 : Nat) : Int)) (fun r w1 hr hg hA => by obtain ⟨q0, -⟩ := hA; have q0e : r (.tmp 12) = .int .i64 ((0 : Nat) : Int) := q0; exact ⟨rfl, by simp [go_sem, q0e]⟩) ?_
            refine tab_val (.pointer (some ⟨bl, 0, none⟩)) (fun r w1 hr hg hA => by obtain ⟨⟨_, q0⟩, ⟨_, q1⟩, -⟩ := hA; have q0e : r (.tmp 47) = .slice (some ⟨bl, 0, none⟩) 2 2 := q0; have q1e : r (.tmp 48) = .int .i64 ((0 : Nat) : Int) := q1; exact ⟨rfl, by simp [go_sem, q0e, q1e]⟩) ?_
            refine tab_val (.agg #[.int .i64 ax, .int .i64 ay]) (fun r w1 hr hg hA => by obtain ⟨⟨_, q0⟩, -⟩ := hA; have q0e : r (.tmp 49) = .pointer (some ⟨bl, 0, none⟩) := q0; have hc := HF.out w1 (HG.out.trans (hg1.trans hg)); exact ⟨rfl, by simp [go_sem, q0e, hc]⟩) ?_
            refine tab_call (v := .bool false) (fun w1 hg => HN1.out w1) (fun r w1 hr hg hA => by obtain ⟨⟨_, q0⟩, ⟨_, q1⟩, ⟨_, q2⟩, -⟩ := hA; have q0e : r (.tmp 45) = .agg #[.int .i64 cx, .int .i64 cy] := q0; have q1e : r (.tmp 46) = .agg #[.int .i64 dx, .int .i64 dy] := q1; have q2e : r (.tmp 50) = .agg #[.int .i64 ax, .int .i64 ay] := q2; exact ⟨rfl, by simp [go_sem, hr.func, q0e, q1e, q2e]⟩) ?_
            refine tab_end ?_
            simp only [List.reverse_cons, List.reverse_nil, List.nil_append, List.cons_append, Out, BlockP, forall_eq, forall_const, Act.put, List.setIfInBounds_toArray, List.set_cons_succ, List.set_cons_zero]
            intro wt hgA
            have HG' := Lib.hid (HG.out.trans (hg1.trans hgA))
            clear hg1 hgA hg1' hw0 HG
            have HG := HG'
            clear HG'
            go_wp2
            exact ⟨⟨1, by omega, by simp [cnt, bi, wrap64], by simp [cnt, bi, wrap64], by simp, HG⟩, by simp only [intOf]; omega⟩
          · refine wp_region_tab 7 (by kernel_rfl) (by kernel_rfl) ?_
            intro w0 hw0 hg1 hg1'
            simp only [List.take_succ_cons, List.take_zero, List.drop_succ_cons, List.drop_zero]
            refine tab_val (.agg #[.int .i64 cx, .int .i64 cy]) (fun r w1 hr hg hA => by obtain ⟨q0, -⟩ := hA; have q0e : r (.tmp 6) = .pointer (some ⟨w.heap.size + 1 + 1, 0, none⟩) := q0; have hc := HF.out w1 (HG.out.trans (hg1.trans hg)); exact ⟨rfl, by simp [go_sem, q0e, hc]⟩) ?_
            refine tab_val (.agg #[.int .i64 dx, .int .i64 dy]) (fun r w1 hr hg hA => by obtain ⟨q0, -⟩ := hA; have q0e : r (.tmp 7) = .pointer (some ⟨w.heap.size + 1 + 1 + 1, 0, none⟩) := q0; have hc := HF.out w1 (HG.out.trans (hg1.trans hg)); exact ⟨rfl, by simp [go_sem, q0e, hc]⟩) ?_
            refine tab_val (.slice (some ⟨bl, 0, none⟩) 2 2) (fun r w1 hr hg hA => by obtain ⟨q0, -⟩ := hA; have q0e : r (.tmp 11) = .slice (some ⟨bl, 0, none⟩) 2 2 := q0; exact ⟨rfl, by simp [go_sem, q0e]⟩) ?_
            refine tab_val (.int .i64 ((0 : Nat) : Int)) (fun r w1 hr hg hA => by obtain ⟨q0, -⟩ := hA; have q0e : r (.tmp 12) = .int .i64 ((0 : Nat) : Int) := q0; exact ⟨rfl, by simp [go_sem, q0e]⟩) ?_
            refine tab_val (.pointer (some ⟨bl, 0, none⟩)) (fun r w1 hr hg hA => by obtain ⟨⟨_, q0⟩, ⟨_, q1⟩, -⟩ := hA; have q0e : r (.tmp 47) = .slice (some ⟨bl, 0, none⟩) 2 2 := q0; have q1e : r (.tmp 48) = .int .i64 ((0 : Nat) : Int) := q1; exact ⟨rfl, by simp [go_sem, q0e, q1e]⟩) ?_
            refine tab_val (.agg #[.int .i64 ax, .int .i64 ay]) (fun r w1 hr hg hA => by obtain ⟨⟨_, q0⟩, -⟩ := hA; have q0e : r (.tmp 49) = .pointer (some ⟨bl, 0, none⟩) := q0; have hc := HF.out w1 (HG.out.trans (hg1.trans hg)); exact ⟨rfl, by simp [go_sem, q0e, hc]⟩) ?_
            refine tab_call (v := .bool true) (fun w1 hg => HN1.out w1) (fun r w1 hr hg hA => by obtain ⟨⟨_, q0⟩, ⟨_, q1⟩, ⟨_, q2⟩, -⟩ := hA; have q0e : r (.tmp 45) = .agg #[.int .i64 cx, .int .i64 cy] := q0; have q1e : r (.tmp 46) = .agg #[.int .i64 dx, .int .i64 dy] := q1; have q2e : r (.tmp 50) = .agg #[.int .i64 ax, .int .i64 ay] := q2; exact ⟨rfl, by simp [go_sem, hr.func, q0e, q1e, q2e]⟩) ?_
            refine tab_end ?_
            simp only [List.reverse_cons, List.reverse_nil, List.nil_append, List.cons_append, Out, BlockP, forall_eq, forall_const, Act.put, List.setIfInBounds_toArray, List.set_cons_succ, List.set_cons_zero]
            intro wt hgA
            have HG' := Lib.hid (HG.out.trans (hg1.trans hgA))
            clear hg1 hgA hg1' hw0 HG
            have HG := HG'
            clear HG'
            go_wp2_with fail
            cases hE1 : eqP ax ay cx cy with
            | true =>
              refine wp_region_tab 14 (by kernel_rfl) (by kernel_rfl) ?_
              intro w0 hw0 hg1 hg1'
              simp only [List.take_succ_cons, List.take_zero, List.drop_succ_cons, List.drop_zero]
              refine tab_val (.slice (some ⟨bl, 0, none⟩) 2 2) (fun r w1 hr hg hA => by obtain ⟨q0, -⟩ := hA; have q0e : r (.tmp 11) = .slice (some ⟨bl, 0, none⟩) 2 2 := q0; exact ⟨rfl, by simp [go_sem, q0e]⟩) ?_
              refine tab_val (.int .i64 ((0 : Nat) : Int)) (fun r w1 hr hg hA => by obtain ⟨q0, -⟩ := hA; have q0e : r (.tmp 12) = .int .i64 ((0 : Nat) : Int) := q0; exact ⟨rfl, by simp [go_sem, q0e]⟩) ?_
              refine tab_val (.pointer (some ⟨bl, 0, none⟩)) (fun r w1 hr hg hA => by obtain ⟨⟨_, q0⟩, ⟨_, q1⟩, -⟩ := hA; have q0e : r (.tmp 54) = .slice (some ⟨bl, 0, none⟩) 2 2 := q0; have q1e : r (.tmp 55) = .int .i64 ((0 : Nat) : Int) := q1; exact ⟨rfl, by simp [go_sem, q0e, q1e]⟩) ?_
              refine tab_val (.agg #[.int .i64 ax, .int .i64 ay]) (fun r w1 hr hg hA => by obtain ⟨⟨_, q0⟩, -⟩ := hA; have q0e : r (.tmp 56) = .pointer (some ⟨bl, 0, none⟩) := q0; have hc := HF.out w1 (HG.out.trans (hg1.trans hg)); exact ⟨rfl, by simp [go_sem, q0e, hc]⟩) ?_
              refine tab_val (.agg #[.int .i64 cx, .int .i64 cy]) (fun r w1 hr hg hA => by obtain ⟨q0, -⟩ := hA; have q0e : r (.tmp 6) = .pointer (some ⟨w.heap.size + 1 + 1, 0, none⟩) := q0; have hc := HF.out w1 (HG.out.trans (hg1.trans hg)); exact ⟨rfl, by simp [go_sem, q0e, hc]⟩) ?_
              refine tab_val (.bool true) (fun r w1 hr hg hA => by obtain ⟨⟨_, q0⟩, ⟨_, q1⟩, -⟩ := hA; have q0e : r (.tmp 57) = .agg #[.int .i64 ax, .int .i64 ay] := q0; have q1e : r (.tmp 58) = .agg #[.int .i64 cx, .int .i64 cy] := q1; exact ⟨rfl, by simp [go_sem, q0e, q1e, eqIf2, hE1]⟩) ?_
              refine tab_val (.bool true) (fun r w1 hr hg hA => by obtain ⟨⟨_, q0⟩, -⟩ := hA; have q0e : r (.tmp 59) = .bool true := q0; exact ⟨rfl, by simp [go_sem, q0e]⟩) ?_
              refine tab_skip (fun r w1 hr hg hA => by obtain ⟨q0, ⟨_, q1⟩, -⟩ := hA; have q0e : r (.tmp 11) = .slice (some ⟨bl, 0, none⟩) 2 2 := q0; have q1e : r (.tmp 60) = .bool true := q1; exact ⟨_, q1e, rfl⟩) ?_
              refine tab_skip (fun r w1 hr hg hA => by obtain ⟨q0, ⟨_, q1⟩, -⟩ := hA; have q0e : r (.tmp 12) = .int .i64 ((0 : Nat) : Int) := q0; have q1e : r (.tmp 60) = .bool true := q1; exact ⟨_, q1e, rfl⟩) ?_
              refine tab_skip (fun r w1 hr hg hA => by obtain ⟨⟨_, q0⟩, ⟨_, q1⟩, ⟨_, q2⟩, -⟩ := hA; have q0e : r (.tmp 61) = undef := q0; have q1e : r (.tmp 62) = undef := q1; have q2e : r (.tmp 60) = .bool true := q2; exact ⟨_, q2e, rfl⟩) ?_
              refine tab_skip (fun r w1 hr hg hA => by obtain ⟨⟨_, q0⟩, ⟨_, q1⟩, -⟩ := hA; have q0e : r (.tmp 63) = undef := q0; have q1e : r (.tmp 60) = .bool true := q1; exact ⟨_, q1e, rfl⟩) ?_
              refine tab_skip (fun r w1 hr hg hA => by obtain ⟨q0, ⟨_, q1⟩, -⟩ := hA; have q0e : r (.tmp 7) = .pointer (some ⟨w.heap.size + 1 + 1 + 1, 0, none⟩) := q0; have q1e : r (.tmp 60) = .bool true := q1; exact ⟨_, q1e, rfl⟩) ?_
              refine tab_skip (fun r w1 hr hg hA => by obtain ⟨⟨_, q0⟩, ⟨_, q1⟩, ⟨_, q2⟩, -⟩ := hA; have q0e : r (.tmp 64) = undef := q0; have q1e : r (.tmp 65) = undef := q1; have q2e : r (.tmp 60) = .bool true := q2; exact ⟨_, q2e, rfl⟩) ?_
              refine tab_val (.bool true) (fun r w1 hr hg hA => by obtain ⟨⟨_, q0⟩, ⟨_, q1⟩, -⟩ := hA; have q0e : r (.tmp 60) = .bool true := q0; have q1e : r (.tmp 66) = undef := q1; exact ⟨rfl, by simp [go_sem, hr.const, q0e]⟩) ?_
              refine tab_end ?_
              simp only [List.reverse_cons, List.reverse_nil, List.nil_append, List.cons_append, Out, BlockP, forall_eq, forall_const, Act.put, List.setIfInBounds_toArray, List.set_cons_succ, List.set_cons_zero]
              intro wu hgA
              have HG' := Lib.hid (HG.out.trans (hg1.trans hgA))
              clear hg1 hgA hg1' hw0 HG
              have HG := HG'
              clear HG'
              go_wp2
              have HE : e1 = true := by rw [HE1.out]; simp [hE1]
              exact ⟨⟨1, by omega, by simp [cnt, bi, wrap64], by rw [HE]; simp [cnt, bi, wrap64], by simp, HG⟩, by simp only [intOf]; omega⟩
            | false =>
              cases hE2 : eqP ax ay dx dy with
              | true =>
                refine wp_region_tab 14 (by kernel_rfl) (by kernel_rfl) ?_
                intro w0 hw0 hg1 hg1'
                simp only [List.take_succ_cons, List.take_zero, List.drop_succ_cons, List.drop_zero]
                refine tab_val (.slice (some ⟨bl, 0, none⟩) 2 2) (fun r w1 hr hg hA => by obtain ⟨q0, -⟩ := hA; have q0e : r (.tmp 11) = .slice (some ⟨bl, 0, none⟩) 2 2 := q0; exact ⟨rfl, by simp [go_sem, q0e]⟩) ?_
                refine tab_val (.int .i64 ((0 : Nat) : Int)) (fun r w1 hr hg hA => by obtain ⟨q0, -⟩ := hA; have q0e : r (.tmp 12) = .int .i64 ((0 : Nat) : Int) := q0; exact ⟨rfl, by simp [go_sem, q0e]⟩) ?_
                refine tab_val (.pointer (some ⟨bl, 0, none⟩)) (fun r w1 hr hg hA => by obtain ⟨⟨_, q0⟩, ⟨_, q1⟩, -⟩ := hA; have q0e : r (.tmp 54) = .slice (some ⟨bl, 0, none⟩) 2 2 := q0; have q1e : r (.tmp 55) = .int .i64 ((0 : Nat) : Int) := q1; exact ⟨rfl, by simp [go_sem, q0e, q1e]⟩) ?_
                refine tab_val (.agg #[.int .i64 ax, .int .i64 ay]) (fun r w1 hr hg hA => by obtain ⟨⟨_, q0⟩, -⟩ := hA; have q0e : r (.tmp 56) = .pointer (some ⟨bl, 0, none⟩) := q0; have hc := HF.out w1 (HG.out.trans (hg1.trans hg)); exact ⟨rfl, by simp [go_sem, q0e, hc]⟩) ?_
                refine tab_val (.agg #[.int .i64 cx, .int .i64 cy]) (fun r w1 hr hg hA => by obtain ⟨q0, -⟩ := hA; have q0e : r (.tmp 6) = .pointer (some ⟨w.heap.size + 1 + 1, 0, none⟩) := q0; have hc := HF.out w1 (HG.out.trans (hg1.trans hg)); exact ⟨rfl, by simp [go_sem, q0e, hc]⟩) ?_
                refine tab_val (.bool false) (fun r w1 hr hg hA => by obtain ⟨⟨_, q0⟩, ⟨_, q1⟩, -⟩ := hA; have q0e : r (.tmp 57) = .agg #[.int .i64 ax, .int .i64 ay] := q0; have q1e : r (.tmp 58) = .agg #[.int .i64 cx, .int .i64 cy] := q1; exact ⟨rfl, by simp [go_sem, q0e, q1e, eqIf2, hE1]⟩) ?_
                refine tab_val (.bool false) (fun r w1 hr hg hA => by obtain ⟨⟨_, q0⟩, -⟩ := hA; have q0e : r (.tmp 59) = .bool false := q0; exact ⟨rfl, by simp [go_sem, q0e]⟩) ?_
                refine tab_val (.slice (some ⟨bl, 0, none⟩) 2 2) (fun r w1 hr hg hA => by obtain ⟨q0, ⟨_, q1⟩, -⟩ := hA; have q0e : r (.tmp 11) = .slice (some ⟨bl, 0, none⟩) 2 2 := q0; have q1e : r (.tmp 60) = .bool false := q1; exact ⟨⟨_, q1e, rfl⟩, by simp [go_sem, q0e]⟩) ?_
                refine tab_val (.int .i64 ((0 : Nat) : Int)) (fun r w1 hr hg hA => by obtain ⟨q0, ⟨_, q1⟩, -⟩ := hA; have q0e : r (.tmp 12) = .int .i64 ((0 : Nat) : Int) := q0; have q1e : r (.tmp 60) = .bool false := q1; exact ⟨⟨_, q1e, rfl⟩, by simp [go_sem, q0e]⟩) ?_
                refine tab_val (.pointer (some ⟨bl, 0, none⟩)) (fun r w1 hr hg hA => by obtain ⟨⟨_, q0⟩, ⟨_, q1⟩, ⟨_, q2⟩, -⟩ := hA; have q0e : r (.tmp 61) = .slice (some ⟨bl, 0, none⟩) 2 2 := q0; have q1e : r (.tmp 62) = .int .i64 ((0 : Nat) : Int) := q1; have q2e : r (.tmp 60) = .bool false := q2; exact ⟨⟨_, q2e, rfl⟩, by simp [go_sem, q0e, q1e]⟩) ?_
                refine tab_val (.agg #[.int .i64 ax, .int .i64 ay]) (fun r w1 hr hg hA => by obtain ⟨⟨_, q0⟩, ⟨_, q1⟩, -⟩ := hA; have q0e : r (.tmp 63) = .pointer (some ⟨bl, 0, none⟩) := q0; have q1e : r (.tmp 60) = .bool false := q1; have hc := HF.out w1 (HG.out.trans (hg1.trans hg)); exact ⟨⟨_, q1e, rfl⟩, by simp [go_sem, q0e, hc]⟩) ?_
                refine tab_val (.agg #[.int .i64 dx, .int .i64 dy]) (fun r w1 hr hg hA => by obtain ⟨q0, ⟨_, q1⟩, -⟩ := hA; have q0e : r (.tmp 7) = .pointer (some ⟨w.heap.size + 1 + 1 + 1, 0, none⟩) := q0; have q1e : r (.tmp 60) = .bool false := q1; have hc := HF.out w1 (HG.out.trans (hg1.trans hg)); exact ⟨⟨_, q1e, rfl⟩, by simp [go_sem, q0e, hc]⟩) ?_
                refine tab_val (.bool true) (fun r w1 hr hg hA => by obtain ⟨⟨_, q0⟩, ⟨_, q1⟩, ⟨_, q2⟩, -⟩ := hA; have q0e : r (.tmp 64) = .agg #[.int .i64 ax, .int .i64 ay] := q0; have q1e : r (.tmp 65) = .agg #[.int .i64 dx, .int .i64 dy] := q1; have q2e : r (.tmp 60) = .bool false := q2; exact ⟨⟨_, q2e, rfl⟩, by simp [go_sem, q0e, q1e, eqIf2, hE2]⟩) ?_
                refine tab_val (.bool true) (fun r w1 hr hg hA => by obtain ⟨⟨_, q0⟩, ⟨_, q1⟩, -⟩ := hA; have q0e : r (.tmp 60) = .bool false := q0; have q1e : r (.tmp 66) = .bool true := q1; exact ⟨rfl, by simp [go_sem, q0e, q1e]⟩) ?_
                refine tab_end ?_
                simp only [List.reverse_cons, List.reverse_nil, List.nil_append, List.cons_append, Out, BlockP, forall_eq, forall_const, Act.put, List.setIfInBounds_toArray, List.set_cons_succ, List.set_cons_zero]
                intro wu hgA
                have HG' := Lib.hid (HG.out.trans (hg1.trans hgA))
                clear hg1 hgA hg1' hw0 HG
                have HG := HG'
                clear HG'
                go_wp2
                have HE : e1 = true := by rw [HE1.out]; simp [hE1, hE2]
                exact ⟨⟨1, by omega, by simp [cnt, bi, wrap64], by rw [HE]; simp [cnt, bi, wrap64], by simp, HG⟩, by simp only [intOf]; omega⟩
              | false =>
                refine wp_region_tab 14 (by kernel_rfl) (by kernel_rfl) ?_
                intro w0 hw0 hg1 hg1'
                simp only [List.take_succ_cons, List.take_zero, List.drop_succ_cons, List.drop_zero]
                refine tab_val (.slice (some ⟨bl, 0, none⟩) 2 2) (fun r w1 hr hg hA => by obtain ⟨q0, -⟩ := hA; have q0e : r (.tmp 11) = .slice (some ⟨bl, 0, none⟩) 2 2 := q0; exact ⟨rfl, by simp [go_sem, q0e]⟩) ?_
                refine tab_val (.int .i64 ((0 : Nat) : Int)) (fun r w1 hr hg hA => by obtain ⟨q0, -⟩ := hA; have q0e : r (.tmp 12) = .int .i64 ((0 : Nat) : Int) := q0; exact ⟨rfl, by simp [go_sem, q0e]⟩) ?_
                refine tab_val (.pointer (some ⟨bl, 0, none⟩)) (fun r w1 hr hg hA => by obtain ⟨⟨_, q0⟩, ⟨_, q1⟩, -⟩ := hA; have q0e : r (.tmp 54) = .slice (some ⟨bl, 0, none⟩) 2 2 := q0; have q1e : r (.tmp 55) = .int .i64 ((0 : Nat) : Int) := q1; exact ⟨rfl, by simp [go_sem, q0e, q1e]⟩) ?_
                refine tab_val (.agg #[.int .i64 ax, .int .i64 ay]) (fun r w1 hr hg hA => by obtain ⟨⟨_, q0⟩, -⟩ := hA; have q0e : r (.tmp 56) = .pointer (some ⟨bl, 0, none⟩) := q0; have hc := HF.out w1 (HG.out.trans (hg1.trans hg)); exact ⟨rfl, by simp [go_sem, q0e, hc]⟩) ?_
                refine tab_val (.agg #[.int .i64 cx, .int .i64 cy]) (fun r w1 hr hg hA => by obtain ⟨q0, -⟩ := hA; have q0e : r (.tmp 6) = .pointer (some ⟨w.heap.size + 1 + 1, 0, none⟩) := q0; have hc := HF.out w1 (HG.out.trans (hg1.trans hg)); exact ⟨rfl, by simp [go_sem, q0e, hc]⟩) ?_
                refine tab_val (.bool false) (fun r w1 hr hg hA => by obtain ⟨⟨_, q0⟩, ⟨_, q1⟩, -⟩ := hA; have q0e : r (.tmp 57) = .agg #[.int .i64 ax, .int .i64 ay] := q0; have q1e : r (.tmp 58) = .agg #[.int .i64 cx, .int .i64 cy] := q1; exact ⟨rfl, by simp [go_sem, q0e, q1e, eqIf2, hE1]⟩) ?_
                refine tab_val (.bool false) (fun r w1 hr hg hA => by obtain ⟨⟨_, q0⟩, -⟩ := hA; have q0e : r (.tmp 59) = .bool false := q0; exact ⟨rfl, by simp [go_sem, q0e]⟩) ?_
                refine tab_val (.slice (some ⟨bl, 0, none⟩) 2 2) (fun r w1 hr hg hA => by obtain ⟨q0, ⟨_, q1⟩, -⟩ := hA; have q0e : r (.tmp 11) = .slice (some ⟨bl, 0, none⟩) 2 2 := q0; have q1e : r (.tmp 60) = .bool false := q1; exact ⟨⟨_, q1e, rfl⟩, by simp [go_sem, q0e]⟩) ?_
                refine tab_val (.int .i64 ((0 : Nat) : Int)) (fun r w1 hr hg hA => by obtain ⟨q0, ⟨_, q1⟩, -⟩ := hA; have q0e : r (.tmp 12) = .int .i64 ((0 : Nat) : Int) := q0; have q1e : r (.tmp 60) = .bool false := q1; exact ⟨⟨_, q1e, rfl⟩, by simp [go_sem, q0e]⟩) ?_
                refine tab_val (.pointer (some ⟨bl, 0, none⟩)) (fun r w1 hr hg hA => by obtain ⟨⟨_, q0⟩, ⟨_, q1⟩, ⟨_, q2⟩, -⟩ := hA; have q0e : r (.tmp 61) = .slice (some ⟨bl, 0, none⟩) 2 2 := q0; have q1e : r (.tmp 62) = .int .i64 ((0 : Nat) : Int) := q1; have q2e : r (.tmp 60) = .bool false := q2; exact ⟨⟨_, q2e, rfl⟩, by simp [go_sem, q0e, q1e]⟩) ?_
                refine tab_val (.agg #[.int .i64 ax, .int .i64 ay]) (fun r w1 hr hg hA => by obtain ⟨⟨_, q0⟩, ⟨_, q1⟩, -⟩ := hA; have q0e : r (.tmp 63) = .pointer (some ⟨bl, 0, none⟩) := q0; have q1e : r (.tmp 60) = .bool false := q1; have hc := HF.out w1 (HG.out.trans (hg1.trans hg)); exact ⟨⟨_, q1e, rfl⟩, by simp [go_sem, q0e, hc]⟩) ?_
                refine tab_val (.agg #[.int .i64 dx, .int .i64 dy]) (fun r w1 hr hg hA => by obtain ⟨q0, ⟨_, q1⟩, -⟩ := hA; have q0e : r (.tmp 7) = .pointer (some ⟨w.heap.size + 1 + 1 + 1, 0, none⟩) := q0; have q1e : r (.tmp 60) = .bool false := q1; have hc := HF.out w1 (HG.out.trans (hg1.trans hg)); exact ⟨⟨_, q1e, rfl⟩, by simp [go_sem, q0e, hc]⟩) ?_
                refine tab_val (.bool false) (fun r w1 hr hg hA => by obtain ⟨⟨_, q0⟩, ⟨_, q1⟩, ⟨_, q2⟩, -⟩ := hA; have q0e : r (.tmp 64) = .agg #[.int .i64 ax, .int .i64 ay] := q0; have q1e : r (.tmp 65) = .agg #[.int .i64 dx, .int .i64 dy] := q1; have q2e : r (.tmp 60) = .bool false := q2; exact ⟨⟨_, q2e, rfl⟩, by simp [go_sem, q0e, q1e, eqIf2, hE2]⟩) ?_
                refine tab_val (.bool false) (fun r w1 hr hg hA => by obtain ⟨⟨_, q0⟩, ⟨_, q1⟩, -⟩ := hA; have q0e : r (.tmp 60) = .bool false := q0; have q1e : r (.tmp 66) = .bool false := q1; exact ⟨rfl, by simp [go_sem, q0e, q1e]⟩) ?_
                refine tab_end ?_
                simp only [List.reverse_cons, List.reverse_nil, List.nil_append, List.cons_append, Out, BlockP, forall_eq, forall_const, Act.put, List.setIfInBounds_toArray, List.set_cons_succ, List.set_cons_zero]
                intro wu hgA
                have HG' := Lib.hid (HG.out.trans (hg1.trans hgA))
                clear hg1 hgA hg1' hw0 HG
                have HG := HG'
                clear HG'
                go_wp2
                have HE : e1 = false := by rw [HE1.out]; simp [hE1, hE2]
                exact ⟨⟨1, by omega, by simp [cnt, bi, wrap64], by rw [HE]; simp [cnt, bi, wrap64], by simp, HG⟩, by simp only [intOf]; omega⟩
        · go_wp2_with fail
          cases n2
          · refine wp_region_tab 7 (by kernel_rfl) (by kernel_rfl) ?_
            intro w0 hw0 hg1 hg1'
            simp only [List.take_succ_cons, List.take_zero, List.drop_succ_cons, List.drop_zero]
            refine tab_val (.agg #[.int .i64 cx, .int .i64 cy]) (fun r w1 hr hg hA => by obtain ⟨q0, -⟩ := hA; have q0e : r (.tmp 6) = .pointer (some ⟨w.heap.size + 1 + 1, 0, none⟩) := q0; have hc := HF.out w1 (HG.out.trans (hg1.trans hg)); exact ⟨rfl, by simp [go_sem, q0e, hc]⟩) ?_
            refine tab_val (.agg #[.int .i64 dx, .int .i64 dy]) (fun r w1 hr hg hA => by obtain ⟨q0, -⟩ := hA; have q0e : r (.tmp 7) = .pointer (some ⟨w.heap.size + 1 + 1 + 1, 0, none⟩) := q0; have hc := HF.out w1 (HG.out.trans (hg1.trans hg)); exact ⟨rfl, by simp [go_sem, q0e, hc]⟩) ?_
            refine tab_val (.slice (some ⟨bl, 0, none⟩) 2 2) (fun r w1 hr hg hA => by obtain ⟨q0, -⟩ := hA; have q0e : r (.tmp 11) = .slice (some ⟨bl, 0, none⟩) 2 2 := q0; exact ⟨rfl, by simp [go_sem, q0e]⟩) ?_
            refine tab_val (.int .i64 ((1 : Nat) : Int)) (fun r w1 hr hg hA => by obtain ⟨q0, -⟩ := hA; have q0e : r (.tmp 12) = .int .i64 ((1 : Nat) : Int) := q0; exact ⟨rfl, by simp [go_sem, q0e]⟩) ?_
            refine tab_val (.pointer (some ⟨bl, 2, none⟩)) (fun r w1 hr hg hA => by obtain ⟨⟨_, q0⟩, ⟨_, q1⟩, -⟩ := hA; have q0e : r (.tmp 47) = .slice (some ⟨bl, 0, none⟩) 2 2 := q0; have q1e : r (.tmp 48) = .int .i64 ((1 : Nat) : Int) := q1; exact ⟨rfl, by simp [go_sem, q0e, q1e]⟩) ?_
            refine tab_val (.agg #[.int .i64 bx, .int .i64 b_y]) (fun r w1 hr hg hA => by obtain ⟨⟨_, q0⟩, -⟩ := hA; have q0e : r (.tmp 49) = .pointer (some ⟨bl, 2, none⟩) := q0; have hc := HF.out w1 (HG.out.trans (hg1.trans hg)); exact ⟨rfl, by simp [go_sem, q0e, hc]⟩) ?_
            refine tab_call (v := .bool false) (fun w1 hg => HN2.out w1) (fun r w1 hr hg hA => by obtain ⟨⟨_, q0⟩, ⟨_, q1⟩, ⟨_, q2⟩, -⟩ := hA; have q0e : r (.tmp 45) = .agg #[.int .i64 cx, .int .i64 cy] := q0; have q1e : r (.tmp 46) = .agg #[.int .i64 dx, .int .i64 dy] := q1; have q2e : r (.tmp 50) = .agg #[.int .i64 bx, .int .i64 b_y] := q2; exact ⟨rfl, by simp [go_sem, hr.func, q0e, q1e, q2e]⟩) ?_
            refine tab_end ?_
            simp only [List.reverse_cons, List.reverse_nil, List.nil_append, List.cons_append, Out, BlockP, forall_eq, forall_const, Act.put, List.setIfInBounds_toArray, List.set_cons_succ, List.set_cons_zero]
            intro wt hgA
            have HG' := Lib.hid (HG.out.trans (hg1.trans hgA))
            clear hg1 hgA hg1' hw0 HG
            have HG := HG'
            clear HG'
            go_wp2
            exact ⟨⟨2, by omega, by first | (simp [cnt, bi, wrap64]; done) | (cases n1 <;> simp [cnt, bi, wrap64]; done) | (cases n1 <;> cases e1 <;> simp [cnt, bi, wrap64]; done), by first | (simp [cnt, bi, wrap64]; done) | (cases n1 <;> simp [cnt, bi, wrap64]; done) | (cases n1 <;> cases e1 <;> simp [cnt, bi, wrap64]; done), by simp, HG⟩, by simp only [intOf]; omega⟩
          · refine wp_region_tab 7 (by kernel_rfl) (by kernel_rfl) ?_
            intro w0 hw0 hg1 hg1'
            simp only [List.take_succ_cons, List.take_zero, List.drop_succ_cons, List.drop_zero]
            refine tab_val (.agg #[.int .i64 cx, .int .i64 cy]) (fun r w1 hr hg hA => by obtain ⟨q0, -⟩ := hA; have q0e : r (.tmp 6) = .pointer (some ⟨w.heap.size + 1 + 1, 0, none⟩) := q0; have hc := HF.out w1 (HG.out.trans (hg1.trans hg)); exact ⟨rfl, by simp [go_sem, q0e, hc]⟩) ?_
            refine tab_val (.agg #[.int .i64 dx, .int .i64 dy]) (fun r w1 hr hg hA => by obtain ⟨q0, -⟩ := hA; have q0e : r (.tmp 7) = .pointer (some ⟨w.heap.size + 1 + 1 + 1, 0, none⟩) := q0; have hc := HF.out w1 (HG.out.trans (hg1.trans hg)); exact ⟨rfl, by simp [go_sem, q0e, hc]⟩) ?_
            refine tab_val (.slice (some ⟨bl, 0, none⟩) 2 2) (fun r w1 hr hg hA => by obtain ⟨q0, -⟩ := hA; have q0e : r (.tmp 11) = .slice (some ⟨bl, 0, none⟩) 2 2 := q0; exact ⟨rfl, by simp [go_sem, q0e]⟩) ?_
            refine tab_val (.int .i64 ((1 : Nat) : Int)) (fun r w1 hr hg hA => by obtain ⟨q0, -⟩ := hA; have q0e : r (.tmp 12) = .int .i64 ((1 : Nat) : Int) := q0; exact ⟨rfl, by simp [go_sem, q0e]⟩) ?_
            refine tab_val (.pointer (some ⟨bl, 2, none⟩)) (fun r w1 hr hg hA => by obtain ⟨⟨_, q0⟩, ⟨_, q1⟩, -⟩ := hA; have q0e : r (.tmp 47) = .slice (some ⟨bl, 0, none⟩) 2 2 := q0; have q1e : r (.tmp 48) = .int .i64 ((1 : Nat) : Int) := q1; exact ⟨rfl, by simp [go_sem, q0e, q1e]⟩) ?_
            refine tab_val (.agg #[.int .i64 bx, .int .i64 b_y]) (fun r w1 hr hg hA => by obtain ⟨⟨_, q0⟩, -⟩ := hA; have q0e : r (.tmp 49) = .pointer (some ⟨bl, 2, none⟩) := q0; have hc := HF.out w1 (HG.out.trans (hg1.trans hg)); exact ⟨rfl, by simp [go_sem, q0e, hc]⟩) ?_
            refine tab_call (v := .bool true) (fun w1 hg => HN2.out w1) (fun r w1 hr hg hA => by obtain ⟨⟨_, q0⟩, ⟨_, q1⟩, ⟨_, q2⟩, -⟩ := hA; have q0e : r (.tmp 45) = .agg #[.int .i64 cx, .int .i64 cy] := q0; have q1e : r (.tmp 46) = .agg #[.int .i64 dx, .int .i64 dy] := q1; have q2e : r (.tmp 50) = .agg #[.int .i64 bx, .int .i64 b_y] := q2; exact ⟨rfl, by simp [go_sem, hr.func, q0e, q1e, q2e]⟩) ?_
            refine tab_end ?_
            simp only [List.reverse_cons, List.reverse_nil, List.nil_append, List.cons_append, Out, BlockP, forall_eq, forall_const, Act.put, List.setIfInBounds_toArray, List.set_cons_succ, List.set_cons_zero]
            intro wt hgA
            have HG' := Lib.hid (HG.out.trans (hg1.trans hgA))
            clear hg1 hgA hg1' hw0 HG
            have HG := HG'
            clear HG'
            go_wp2_with fail
            cases hE1 : eqP bx b_y cx cy with
            | true =>
              refine wp_region_tab 14 (by kernel_rfl) (by kernel_rfl) ?_
              intro w0 hw0 hg1 hg1'
              simp only [List.take_succ_cons, List.take_zero, List.drop_succ_cons, List.drop_zero]
              refine tab_val (.slice (some ⟨bl, 0, none⟩) 2 2) (fun r w1 hr hg hA => by obtain ⟨q0, -⟩ := hA; have q0e : r (.tmp 11) = .slice (some ⟨bl, 0, none⟩) 2 2 := q0; exact ⟨rfl, by simp [go_sem, q0e]⟩) ?_
              refine tab_val (.int .i64 ((1 : Nat) : Int)) (fun r w1 hr hg hA => by obtain ⟨q0, -⟩ := hA; have q0e : r (.tmp 12) = .int .i64 ((1 : Nat) : Int) := q0; exact ⟨rfl, by simp [go_sem, q0e]⟩) ?_
              refine tab_val (.pointer (some ⟨bl, 2, none⟩)) (fun r w1 hr hg hA => by obtain ⟨⟨_, q0⟩, ⟨_, q1⟩, -⟩ := hA; have q0e : r (.tmp 54) = .slice (some ⟨bl, 0, none⟩) 2 2 := q0; have q1e : r (.tmp 55) = .int .i64 ((1 : Nat) : Int) := q1; exact ⟨rfl, by simp [go_sem, q0e, q1e]⟩) ?_
              refine tab_val (.agg #[.int .i64 bx, .int .i64 b_y]) (fun r w1 hr hg hA => by obtain ⟨⟨_, q0⟩, -⟩ := hA; have q0e : r (.tmp 56) = .pointer (some ⟨bl, 2, none⟩) := q0; have hc := HF.out w1 (HG.out.trans (hg1.trans hg)); exact ⟨rfl, by simp [go_sem, q0e, hc]⟩) ?_
              refine tab_val (.agg #[.int .i64 cx, .int .i64 cy]) (fun r w1 hr hg hA => by obtain ⟨q0, -⟩ := hA; have q0e : r (.tmp 6) = .pointer (some ⟨w.heap.size + 1 + 1, 0, none⟩) := q0; have hc := HF.out w1 (HG.out.trans (hg1.trans hg)); exact ⟨rfl, by simp [go_sem, q0e, hc]⟩) ?_
              refine tab_val (.bool true) (fun r w1 hr hg hA => by obtain ⟨⟨_, q0⟩, ⟨_, q1⟩, -⟩ := hA; have q0e : r (.tmp 57) = .agg #[.int .i64 bx, .int .i64 b_y] := q0; have q1e : r (.tmp 58) = .agg #[.int .i64 cx, .int .i64 cy] := q1; exact ⟨rfl, by simp [go_sem, q0e, q1e, eqIf2, hE1]⟩) ?_
              refine tab_val (.bool true) (fun r w1 hr hg hA => by obtain ⟨⟨_, q0⟩, -⟩ := hA; have q0e : r (.tmp 59) = .bool true := q0; exact ⟨rfl, by simp [go_sem, q0e]⟩) ?_
              refine tab_skip (fun r w1 hr hg hA => by obtain ⟨q0, ⟨_, q1⟩, -⟩ := hA; have q0e : r (.tmp 11) = .slice (some ⟨bl, 0, none⟩) 2 2 := q0; have q1e : r (.tmp 60) = .bool true := q1; exact ⟨_, q1e, rfl⟩) ?_
              refine tab_skip (fun r w1 hr hg hA => by obtain ⟨q0, ⟨_, q1⟩, -⟩ := hA; have q0e : r (.tmp 12) = .int .i64 ((1 : Nat) : Int) := q0; have q1e : r (.tmp 60) = .bool true := q1; exact ⟨_, q1e, rfl⟩) ?_
              refine tab_skip (fun r w1 hr hg hA => by obtain ⟨⟨_, q0⟩, ⟨_, q1⟩, ⟨_, q2⟩, -⟩ := hA; have q0e : r (.tmp 61) = undef := q0; have q1e : r (.tmp 62) = undef := q1; have q2e : r (.tmp 60) = .bool true := q2; exact ⟨_, q2e, rfl⟩) ?_
              refine tab_skip (fun r w1 hr hg hA => by obtain ⟨⟨_, q0⟩, ⟨_, q1⟩, -⟩ := hA; have q0e : r (.tmp 63) = undef := q0; have q1e : r (.tmp 60) = .bool true := q1; exact ⟨_, q1e, rfl⟩) ?_
              refine tab_skip (fun r w1 hr hg hA => by obtain ⟨q0, ⟨_, q1⟩, -⟩ := hA; have q0e : r (.tmp 7) = .pointer (some ⟨w.heap.size + 1 + 1 + 1, 0, none⟩) := q0; have q1e : r (.tmp 60) = .bool true := q1; exact ⟨_, q1e, rfl⟩) ?_
              refine tab_skip (fun r w1 hr hg hA => by obtain ⟨⟨_, q0⟩, ⟨_, q1⟩, ⟨_, q2⟩, -⟩ := hA; have q0e : r (.tmp 64) = undef := q0; have q1e : r (.tmp 65) = undef := q1; have q2e : r (.tmp 60) = .bool true := q2; exact ⟨_, q2e, rfl⟩) ?_
              refine tab_val (.bool true) (fun r w1 hr hg hA => by obtain ⟨⟨_, q0⟩, ⟨_, q1⟩, -⟩ := hA; have q0e : r (.tmp 60) = .bool true := q0; have q1e : r (.tmp 66) = undef := q1; exact ⟨rfl, by simp [go_sem, hr.const, q0e]⟩) ?_
              refine tab_end ?_
              simp only [List.reverse_cons, List.reverse_nil, List.nil_append, List.cons_append, Out, BlockP, forall_eq, forall_const, Act.put, List.setIfInBounds_toArray, List.set_cons_succ, List.set_cons_zero]
              intro wu hgA
              have HG' := Lib.hid (HG.out.trans (hg1.trans hgA))
              clear hg1 hgA hg1' hw0 HG
              have HG := HG'
              clear HG'
              go_wp2
              have HE : e2 = true := by rw [HE2.out]; simp [hE1]
              exact ⟨⟨2, by omega, by first | (simp [cnt, bi, wrap64]; done) | (cases n1 <;> simp [cnt, bi, wrap64]; done) | (cases n1 <;> cases e1 <;> simp [cnt, bi, wrap64]; done), by rw [HE]; first | (simp [cnt, bi, wrap64]; done) | (cases n1 <;> simp [cnt, bi, wrap64]; done) | (cases n1 <;> cases e1 <;> simp [cnt, bi, wrap64]; done), by simp, HG⟩, by simp only [intOf]; omega⟩
            | false =>
              cases hE2 : eqP bx b_y dx dy with
              | true =>
                refine wp_region_tab 14 (by kernel_rfl) (by kernel_rfl) ?_
                intro w0 hw0 hg1 hg1'
                simp only [List.take_succ_cons, List.take_zero, List.drop_succ_cons, List.drop_zero]
                refine tab_val (.slice (some ⟨bl, 0, none⟩) 2 2) (fun r w1 hr hg hA => by obtain ⟨q0, -⟩ := hA; have q0e : r (.tmp 11) = .slice (some ⟨bl, 0, none⟩) 2 2 := q0; exact ⟨rfl, by simp [go_sem, q0e]⟩) ?_
                refine tab_val (.int .i64 ((1 : Nat) : Int)) (fun r w1 hr hg hA => by obtain ⟨q0, -⟩ := hA; have q0e : r (.tmp 12) = .int .i64 ((1 : Nat) : Int) := q0; exact ⟨rfl, by simp [go_sem, q0e]⟩) ?_
                refine tab_val (.pointer (some ⟨bl, 2, none⟩)) (fun r w1 hr hg hA => by obtain ⟨⟨_, q0⟩, ⟨_, q1⟩, -⟩ := hA; have q0e : r (.tmp 54) = .slice (some ⟨bl, 0, none⟩) 2 2 := q0; have q1e : r (.tmp 55) = .int .i64 ((1 : Nat) : Int) := q1; exact ⟨rfl, by simp [go_sem, q0e, q1e]⟩) ?_
                refine tab_val (.agg #[.int .i64 bx, .int .i64 b_y]) (fun r w1 hr hg hA => by obtain ⟨⟨_, q0⟩, -⟩ := hA; have q0e : r (.tmp 56) = .pointer (some ⟨bl, 2, none⟩) := q0; have hc := HF.out w1 (HG.out.trans (hg1.trans hg)); exact ⟨rfl, by simp [go_sem, q0e, hc]⟩) ?_
                refine tab_val (.agg #[.int .i64 cx, .int .i64 cy]) (fun r w1 hr hg hA => by obtain ⟨q0, -⟩ := hA; have q0e : r (.tmp 6) = .pointer (some ⟨w.heap.size + 1 + 1, 0, none⟩) := q0; have hc := HF.out w1 (HG.out.trans (hg1.trans hg)); exact ⟨rfl, by simp [go_sem, q0e, hc]⟩) ?_
                refine tab_val (.bool false) (fun r w1 hr hg hA => by obtain ⟨⟨_, q0⟩, ⟨_, q1⟩, -⟩ := hA; have q0e : r (.tmp 57) = .agg #[.int .i64 bx, .int .i64 b_y] := q0; have q1e : r (.tmp 58) = .agg #[.int .i64 cx, .int .i64 cy] := q1; exact ⟨rfl, by simp [go_sem, q0e, q1e, eqIf2, hE1]⟩) ?_
                refine tab_val (.bool false) (fun r w1 hr hg hA => by obtain ⟨⟨_, q0⟩, -⟩ := hA; have q0e : r (.tmp 59) = .bool false := q0; exact ⟨rfl, by simp [go_sem, q0e]⟩) ?_
                refine tab_val (.slice (some ⟨bl, 0, none⟩) 2 2) (fun r w1 hr hg hA => by obtain ⟨q0, ⟨_, q1⟩, -⟩ := hA; have q0e : r (.tmp 11) = .slice (some ⟨bl, 0, none⟩) 2 2 := q0; have q1e : r (.tmp 60) = .bool false := q1; exact ⟨⟨_, q1e, rfl⟩, by simp [go_sem, q0e]⟩) ?_
                refine tab_val (.int .i64 ((1 : Nat) : Int)) (fun r w1 hr hg hA => by obtain ⟨q0, ⟨_, q1⟩, -⟩ := hA; have q0e : r (.tmp 12) = .int .i64 ((1 : Nat) : Int) := q0; have q1e : r (.tmp 60) = .bool false := q1; exact ⟨⟨_, q1e, rfl⟩, by simp [go_sem, q0e]⟩) ?_
                refine tab_val (.pointer (some ⟨bl, 2, none⟩)) (fun r w1 hr hg hA => by obtain ⟨⟨_, q0⟩, ⟨_, q1⟩, ⟨_, q2⟩, -⟩ := hA; have q0e : r (.tmp 61) = .slice (some ⟨bl, 0, none⟩) 2 2 := q0; have q1e : r (.tmp 62) = .int .i64 ((1 : Nat) : Int) := q1; have q2e : r (.tmp 60) = .bool false := q2; exact ⟨⟨_, q2e, rfl⟩, by simp [go_sem, q0e, q1e]⟩) ?_
                refine tab_val (.agg #[.int .i64 bx, .int .i64 b_y]) (fun r w1 hr hg hA => by obtain ⟨⟨_, q0⟩, ⟨_, q1⟩, -⟩ := hA; have q0e : r (.tmp 63) = .pointer (some ⟨bl, 2, none⟩) := q0; have q1e : r (.tmp 60) = .bool false := q1; have hc := HF.out w1 (HG.out.trans (hg1.trans hg)); exact ⟨⟨_, q1e, rfl⟩, by simp [go_sem, q0e, hc]⟩) ?_
                refine tab_val (.agg #[.int .i64 dx, .int .i64 dy]) (fun r w1 hr hg hA => by obtain ⟨q0, ⟨_, q1⟩, -⟩ := hA; have q0e : r (.tmp 7) = .pointer (some ⟨w.heap.size + 1 + 1 + 1, 0, none⟩) := q0; have q1e : r (.tmp 60) = .bool false := q1; have hc := HF.out w1 (HG.out.trans (hg1.trans hg)); exact ⟨⟨_, q1e, rfl⟩, by simp [go_sem, q0e, hc]⟩) ?_
                refine tab_val (.bool true) (fun r w1 hr hg hA => by obtain ⟨⟨_, q0⟩, ⟨_, q1⟩, ⟨_, q2⟩, -⟩ := hA; have q0e : r (.tmp 64) = .agg #[.int .i64 bx, .int .i64 b_y] := q0; have q1e : r (.tmp 65) = .agg #[.int .i64 dx, .int .i64 dy] := q1; have q2e : r (.tmp 60) = .bool false := q2; exact ⟨⟨_, q2e, rfl⟩, by simp [go_sem, q0e, q1e, eqIf2, hE2]⟩) ?_
                refine tab_val (.bool true) (fun r w1 hr hg hA => by obtain ⟨⟨_, q0⟩, ⟨_, q1⟩, -⟩ := hA; have q0e : r (.tmp 60) = .bool false := q0; have q1e : r (.tmp 66) = .bool true := q1; exact ⟨rfl, by simp [go_sem, q0e, q1e]⟩) ?_
                refine tab_end ?_
                simp only [List.reverse_cons, List.reverse_nil, List.nil_append, List.cons_append, Out, BlockP, forall_eq, forall_const, Act.put, List.setIfInBounds_toArray, List.set_cons_succ, List.set_cons_zero]
                intro wu hgA
                have HG' := Lib.hid (HG.out.trans (hg1.trans hgA))
                clear hg1 hgA hg1' hw0 HG
                have HG := HG'
                clear HG'
                go_wp2
                have HE : e2 = true := by rw [HE2.out]; simp [hE1, hE2]
                exact ⟨⟨2, by omega, by first | (simp [cnt, bi, wrap64]; done) | (cases n1 <;> simp [cnt, bi, wrap64]; done) | (cases n1 <;> cases e1 <;> simp [cnt, bi, wrap64]; done), by rw [HE]; first | (simp [cnt, bi, wrap64]; done) | (cases n1 <;> simp [cnt, bi, wrap64]; done) | (cases n1 <;> cases e1 <;> simp [cnt, bi, wrap64]; done), by simp, HG⟩, by simp only [intOf]; omega⟩
              | false =>
                refine wp_region_tab 14 (by kernel_rfl) (by kernel_rfl) ?_
                intro w0 hw0 hg1 hg1'
                simp only [List.take_succ_cons, List.take_zero, List.drop_succ_cons, List.drop_zero]
                refine tab_val (.slice (some ⟨bl, 0, none⟩) 2 2) (fun r w1 hr hg hA => by obtain ⟨q0, -⟩ := hA; have q0e : r (.tmp 11) = .slice (some ⟨bl, 0, none⟩) 2 2 := q0; exact ⟨rfl, by simp [go_sem, q0e]⟩) ?_
                refine tab_val (.int .i64 ((1 : Nat) : Int)) (fun r w1 hr hg hA => by obtain ⟨q0, -⟩ := hA; have q0e : r (.tmp 12) = .int .i64 ((1 : Nat) : Int) := q0; exact ⟨rfl, by simp [go_sem, q0e]⟩) ?_
                refine tab_val (.pointer (some ⟨bl, 2, none⟩)) (fun r w1 hr hg hA => by obtain ⟨⟨_, q0⟩, ⟨_, q1⟩, -⟩ := hA; have q0e : r (.tmp 54) = .slice (some ⟨bl, 0, none⟩) 2 2 := q0; have q1e : r (.tmp 55) = .int .i64 ((1 : Nat) : Int) := q1; exact ⟨rfl, by simp [go_sem, q0e, q1e]⟩) ?_
                refine tab_val (.agg #[.int .i64 bx, .int .i64 b_y]) (fun r w1 hr hg hA => by obtain ⟨⟨_, q0⟩, -⟩ := hA; have q0e : r (.tmp 56) = .pointer (some ⟨bl, 2, none⟩) := q0; have hc := HF.out w1 (HG.out.trans (hg1.trans hg)); exact ⟨rfl, by simp [go_sem, q0e, hc]⟩) ?_
                refine tab_val (.agg #[.int .i64 cx, .int .i64 cy]) (fun r w1 hr hg hA => by obtain ⟨q0, -⟩ := hA; have q0e : r (.tmp 6) = .pointer (some ⟨w.heap.size + 1 + 1, 0, none⟩) := q0; have hc := HF.out w1 (HG.out.trans (hg1.trans hg)); exact ⟨rfl, by simp [go_sem, q0e, hc]⟩) ?_
                refine tab_val (.bool false) (fun r w1 hr hg hA => by obtain ⟨⟨_, q0⟩, ⟨_, q1⟩, -⟩ := hA; have q0e : r (.tmp 57) = .agg #[.int .i64 bx, .int .i64 b_y] := q0; have q1e : r (.tmp 58) = .agg #[.int .i64 cx, .int .i64 cy] := q1; exact ⟨rfl, by simp [go_sem, q0e, q1e, eqIf2, hE1]⟩) ?_
                refine tab_val (.bool false) (fun r w1 hr hg hA => by obtain ⟨⟨_, q0⟩, -⟩ := hA; have q0e : r (.tmp 59) = .bool false := q0; exact ⟨rfl, by simp [go_sem, q0e]⟩) ?_
                refine tab_val (.slice (some ⟨bl, 0, none⟩) 2 2) (fun r w1 hr hg hA => by obtain ⟨q0, ⟨_, q1⟩, -⟩ := hA; have q0e : r (.tmp 11) = .slice (some ⟨bl, 0, none⟩) 2 2 := q0; have q1e : r (.tmp 60) = .bool false := q1; exact ⟨⟨_, q1e, rfl⟩, by simp [go_sem, q0e]⟩) ?_
                refine tab_val (.int .i64 ((1 : Nat) : Int)) (fun r w1 hr hg hA => by obtain ⟨q0, ⟨_, q1⟩, -⟩ := hA; have q0e : r (.tmp 12) = .int .i64 ((1 : Nat) : Int) := q0; have q1e : r (.tmp 60) = .bool false := q1; exact ⟨⟨_, q1e, rfl⟩, by simp [go_sem, q0e]⟩) ?_
                refine tab_val (.pointer (some ⟨bl, 2, none⟩)) (fun r w1 hr hg hA => by obtain ⟨⟨_, q0⟩, ⟨_, q1⟩, ⟨_, q2⟩, -⟩ := hA; have q0e : r (.tmp 61) = .slice (some ⟨bl, 0, none⟩) 2 2 := q0; have q1e : r (.tmp 62) = .int .i64 ((1 : Nat) : Int) := q1; have q2e : r (.tmp 60) = .bool false := q2; exact ⟨⟨_, q2e, rfl⟩, by simp [go_sem, q0e, q1e]⟩) ?_
                refine tab_val (.agg #[.int .i64 bx, .int .i64 b_y]) (fun r w1 hr hg hA => by obtain ⟨⟨_, q0⟩, ⟨_, q1⟩, -⟩ := hA; have q0e : r (.tmp 63) = .pointer (some ⟨bl, 2, none⟩) := q0; have q1e : r (.tmp 60) = .bool false := q1; have hc := HF.out w1 (HG.out.trans (hg1.trans hg)); exact ⟨⟨_, q1e, rfl⟩, by simp [go_sem, q0e, hc]⟩) ?_
                refine tab_val (.agg #[.int .i64 dx, .int .i64 dy]) (fun r w1 hr hg hA => by obtain ⟨q0, ⟨_, q1⟩, -⟩ := hA; have q0e : r (.tmp 7) = .pointer (some ⟨w.heap.size + 1 + 1 + 1, 0, none⟩) := q0; have q1e : r (.tmp 60) = .bool false := q1; have hc := HF.out w1 (HG.out.trans (hg1.trans hg)); exact ⟨⟨_, q1e, rfl⟩, by simp [go_sem, q0e, hc]⟩) ?_
                refine tab_val (.bool false) (fun r w1 hr hg hA => by obtain ⟨⟨_, q0⟩, ⟨_, q1⟩, ⟨_, q2⟩, -⟩ := hA; have q0e : r (.tmp 64) = .agg #[.int .i64 bx, .int .i64 b_y] := q0; have q1e : r (.tmp 65) = .agg #[.int .i64 dx, .int .i64 dy] := q1; have q2e : r (.tmp 60) = .bool false := q2; exact ⟨⟨_, q2e, rfl⟩, by simp [go_sem, q0e, q1e, eqIf2, hE2]⟩) ?_
                refine tab_val (.bool false) (fun r w1 hr hg hA => by obtain ⟨⟨_, q0⟩, ⟨_, q1⟩, -⟩ := hA; have q0e : r (.tmp 60) = .bool false := q0; have q1e : r (.tmp 66) = .bool false := q1; exact ⟨rfl, by simp [go_sem, q0e, q1e]⟩) ?_
                refine tab_end ?_
                simp only [List.reverse_cons, List.reverse_nil, List.nil_append, List.cons_append, Out, BlockP, forall_eq, forall_const, Act.put, List.setIfInBounds_toArray, List.set_cons_succ, List.set_cons_zero]
                intro wu hgA
                have HG' := Lib.hid (HG.out.trans (hg1.trans hgA))
                clear hg1 hgA hg1' hw0 HG
                have HG := HG'
                clear HG'
                go_wp2
                have HE : e2 = false := by rw [HE2.out]; simp [hE1, hE2]
                exact ⟨⟨2, by omega, by first | (simp [cnt, bi, wrap64]; done) | (cases n1 <;> simp [cnt, bi, wrap64]; done) | (cases n1 <;> cases e1 <;> simp [cnt, bi, wrap64]; done), by rw [HE]; first | (simp [cnt, bi, wrap64]; done) | (cases n1 <;> simp [cnt, bi, wrap64]; done) | (cases n1 <;> cases e1 <;> simp [cnt, bi, wrap64]; done), by simp, HG⟩, by simp only [intOf]; omega⟩
        · obtain ⟨⟨a0, a1, -, -⟩, ⟨b0, b1, -, -⟩, ⟨c0, c1, -, -⟩, ⟨d0, d1, -, -⟩, -⟩ := HF.out _ HG.out
          go_upto_region 14 with (fail)
          have hL := heap_new wr (.cells #[.int .i64 cx, .int .i64 cy, .int .i64 dx, .int .i64 dy] 28) _ rfl
          have HFA := Lib.hid (fun w' (hg : Grows (wr.alloc (.cells #[.int .i64 cx, .int .i64 cy, .int .i64 dx, .int .i64 dy] 28)) w') => HF.out w' ((HG.out.al (.cells #[.int .i64 cx, .int .i64 cy, .int .i64 dx, .int .i64 dy] 28)).trans hg))
          have GM := Lib.hid ((HGL.out.trans HG.out).al (.cells #[.int .i64 cx, .int .i64 cy, .int .i64 dx, .int .i64 dy] 28))
          generalize wr.alloc (.cells #[.int .i64 cx, .int .i64 cy, .int .i64 dx, .int .i64 dy] 28) = wm at hL HFA GM ⊢
          generalize wr.heap.size = bm at hL ⊢
          have HF2 : Hid (∀ w', Grows wm w' → _) := Lib.hid (fun w' (hg : Grows wm w') => And.intro (HFA.out w' hg) (cells4p (hg.block hL)))
          clear a0 a1 b0 b1 c0 c1 d0 d1 hL HFA HG
          go_wp2_with fail
          obtain ⟨wo, hwo⟩ : ∃ wo : World, wo = wr := ⟨_, rfl⟩
          clear hwo
          go_loopw [13, 14] (fun n0 i wr => ∃ k : Nat, k ≤ 2 ∧ n0 = .int .i64 (cnt m1 m2 k) ∧ i = .int .i64 (k : Int) ∧ Hid (Grows wm wr)) (fun _ i _ => 2 - (intOf i).toNat)
          case atStart => exact ⟨0, by omega, rfl, rfl, Lib.hid (Grows.refl _)⟩
          case round =>
            obtain ⟨k, hk, rfl, rfl, HG⟩ := hrel
            have hk3 : k = 0 ∨ k = 1 ∨ k = 2 := by omega
            clear hk
            rcases hk3 with rfl | rfl | rfl
            · go_wp2_with fail
              cases m1
              · refine wp_region_tab 7 (by kernel_rfl) (by kernel_rfl) ?_
                intro w0 hw0 hg1 hg1'
                simp only [List.take_succ_cons, List.take_zero, List.drop_succ_cons, List.drop_zero]
                refine tab_val (.agg #[.int .i64 ax, .int .i64 ay]) (fun r w1 hr hg hA => by obtain ⟨q0, -⟩ := hA; have q0e : r (.tmp 4) = .pointer (some ⟨w.heap.size, 0, none⟩) := q0; have hc := HF2.out w1 (HG.out.trans (hg1.trans hg)); exact ⟨rfl, by simp [go_sem, q0e, hc]⟩) ?_
                refine tab_val (.agg #[.int .i64 bx, .int .i64 b_y]) (fun r w1 hr hg hA => by obtain ⟨q0, -⟩ := hA; have q0e : r (.tmp 5) = .pointer (some ⟨w.heap.size + 1, 0, none⟩) := q0; have hc := HF2.out w1 (HG.out.trans (hg1.trans hg)); exact ⟨rfl, by simp [go_sem, q0e, hc]⟩) ?_
                refine tab_val (.slice (some ⟨bm, 0, none⟩) 2 2) (fun r w1 hr hg hA => by obtain ⟨q0, -⟩ := hA; have q0e : r (.tmp 11) = .slice (some ⟨bm, 0, none⟩) 2 2 := q0; exact ⟨rfl, by simp [go_sem, q0e]⟩) ?_
                refine tab_val (.int .i64 ((0 : Nat) : Int)) (fun r w1 hr hg hA => by obtain ⟨q0, -⟩ := hA; have q0e : r (.tmp 14) = .int .i64 ((0 : Nat) : Int) := q0; exact ⟨rfl, by simp [go_sem, q0e]⟩) ?_
                refine tab_val (.pointer (some ⟨bm, 0, none⟩)) (fun r w1 hr hg hA => by obtain ⟨⟨_, q0⟩, ⟨_, q1⟩, -⟩ := hA; have q0e : r (.tmp 79) = .slice (some ⟨bm, 0, none⟩) 2 2 := q0; have q1e : r (.tmp 80) = .int .i64 ((0 : Nat) : Int) := q1; exact ⟨rfl, by simp [go_sem, q0e, q1e]⟩) ?_
                refine tab_val (.agg #[.int .i64 cx, .int .i64 cy]) (fun r w1 hr hg hA => by obtain ⟨⟨_, q0⟩, -⟩ := hA; have q0e : r (.tmp 81) = .pointer (some ⟨bm, 0, none⟩) := q0; have hc := HF2.out w1 (HG.out.trans (hg1.trans hg)); exact ⟨rfl, by simp [go_sem, q0e, hc]⟩) ?_
                refine tab_call (v := .bool false) (fun w1 hg => HM1.out w1) (fun r w1 hr hg hA => by obtain ⟨⟨_, q0⟩, ⟨_, q1⟩, ⟨_, q2⟩, -⟩ := hA; have q0e : r (.tmp 77) = .agg #[.int .i64 ax, .int .i64 ay] := q0; have q1e : r (.tmp 78) = .agg #[.int .i64 bx, .int .i64 b_y] := q1; have q2e : r (.tmp 82) = .agg #[.int .i64 cx, .int .i64 cy] := q2; exact ⟨rfl, by simp [go_sem, hr.func, q0e, q1e, q2e]⟩) ?_
                refine tab_end ?_
                simp only [List.reverse_cons, List.reverse_nil, List.nil_append, List.cons_append, Out, BlockP, forall_eq, forall_const, Act.put, List.setIfInBounds_toArray, List.set_cons_succ, List.set_cons_zero]
                intro wt hgA
                have HG' := Lib.hid (HG.out.trans (hg1.trans hgA))
                clear hg1 hgA hg1' hw0 HG
                have HG := HG'
                clear HG'
                go_wp2
                exact ⟨⟨1, by omega, by simp [cnt, bi, wrap64], by simp, HG⟩, by simp only [intOf]; omega⟩
              · refine wp_region_tab 7 (by kernel_rfl) (by kernel_rfl) ?_
                intro w0 hw0 hg1 hg1'
                simp only [List.take_succ_cons, List.take_zero, List.drop_succ_cons, List.drop_zero]
                refine tab_val (.agg #[.int .i64 ax, .int .i64 ay]) (fun r w1 hr hg hA => by obtain ⟨q0, -⟩ := hA; have q0e : r (.tmp 4) = .pointer (some ⟨w.heap.size, 0, none⟩) := q0; have hc := HF2.out w1 (HG.out.trans (hg1.trans hg)); exact ⟨rfl, by simp [go_sem, q0e, hc]⟩) ?_
                refine tab_val (.agg #[.int .i64 bx, .int .i64 b_y]) (fun r w1 hr hg hA => by obtain ⟨q0, -⟩ := hA; have q0e : r (.tmp 5) = .pointer (some ⟨w.heap.size + 1, 0, none⟩) := q0; have hc := HF2.out w1 (HG.out.trans (hg1.trans hg)); exact ⟨rfl, by simp [go_sem, q0e, hc]⟩) ?_
                refine tab_val (.slice (some ⟨bm, 0, none⟩) 2 2) (fun r w1 hr hg hA => by obtain ⟨q0, -⟩ := hA; have q0e : r (.tmp 11) = .slice (some ⟨bm, 0, none⟩) 2 2 := q0; exact ⟨rfl, by simp [go_sem, q0e]⟩) ?_
                refine tab_val (.int .i64 ((0 : Nat) : Int)) (fun r w1 hr hg hA => by obtain ⟨q0, -⟩ := hA; have q0e : r (.tmp 14) = .int .i64 ((0 : Nat) : Int) := q0; exact ⟨rfl, by simp [go_sem, q0e]⟩) ?_
                refine tab_val (.pointer (some ⟨bm, 0, none⟩)) (fun r w1 hr hg hA => by obtain ⟨⟨_, q0⟩, ⟨_, q1⟩, -⟩ := hA; have q0e : r (.tmp 79) = .slice (some ⟨bm, 0, none⟩) 2 2 := q0; have q1e : r (.tmp 80) = .int .i64 ((0 : Nat) : Int) := q1; exact ⟨rfl, by simp [go_sem, q0e, q1e]⟩) ?_
                refine tab_val (.agg #[.int .i64 cx, .int .i64 cy]) (fun r w1 hr hg hA => by obtain ⟨⟨_, q0⟩, -⟩ := hA; have q0e : r (.tmp 81) = .pointer (some ⟨bm, 0, none⟩) := q0; have hc := HF2.out w1 (HG.out.trans (hg1.trans hg)); exact ⟨rfl, by simp [go_sem, q0e, hc]⟩) ?_
                refine tab_call (v := .bool true) (fun w1 hg => HM1.out w1) (fun r w1 hr hg hA => by obtain ⟨⟨_, q0⟩, ⟨_, q1⟩, ⟨_, q2⟩, -⟩ := hA; have q0e : r (.tmp 77) = .agg #[.int .i64 ax, .int .i64 ay] := q0; have q1e : r (.tmp 78) = .agg #[.int .i64 bx, .int .i64 b_y] := q1; have q2e : r (.tmp 82) = .agg #[.int .i64 cx, .int .i64 cy] := q2; exact ⟨rfl, by simp [go_sem, hr.func, q0e, q1e, q2e]⟩) ?_
                refine tab_end ?_
                simp only [List.reverse_cons, List.reverse_nil, List.nil_append, List.cons_append, Out, BlockP, forall_eq, forall_const, Act.put, List.setIfInBounds_toArray, List.set_cons_succ, List.set_cons_zero]
                intro wt hgA
                have HG' := Lib.hid (HG.out.trans (hg1.trans hgA))
                clear hg1 hgA hg1' hw0 HG
                have HG := HG'
                clear HG'
                go_wp2
                exact ⟨⟨1, by omega, by simp [cnt, bi, wrap64], by simp, HG⟩, by simp only [intOf]; omega⟩
            · go_wp2_with fail
              cases m2
              · refine wp_region_tab 7 (by kernel_rfl) (by kernel_rfl) ?_
                intro w0 hw0 hg1 hg1'
                simp only [List.take_succ_cons, List.take_zero, List.drop_succ_cons, List.drop_zero]
                refine tab_val (.agg #[.int .i64 ax, .int .i64 ay]) (fun r w1 hr hg hA => by obtain ⟨q0, -⟩ := hA; have q0e : r (.tmp 4) = .pointer (some ⟨w.heap.size, 0, none⟩) := q0; have hc := HF2.out w1 (HG.out.trans (hg1.trans hg)); exact ⟨rfl, by simp [go_sem, q0e, hc]⟩) ?_
                refine tab_val (.agg #[.int .i64 bx, .int .i64 b_y]) (fun r w1 hr hg hA => by obtain ⟨q0, -⟩ := hA; have q0e : r (.tmp 5) = .pointer (some ⟨w.heap.size + 1, 0, none⟩) := q0; have hc := HF2.out w1 (HG.out.trans (hg1.trans hg)); exact ⟨rfl, by simp [go_sem, q0e, hc]⟩) ?_
                refine tab_val (.slice (some ⟨bm, 0, none⟩) 2 2) (fun r w1 hr hg hA => by obtain ⟨q0, -⟩ := hA; have q0e : r (.tmp 11) = .slice (some ⟨bm, 0, none⟩) 2 2 := q0; exact ⟨rfl, by simp [go_sem, q0e]⟩) ?_
                refine tab_val (.int .i64 ((1 : Nat) : Int)) (fun r w1 hr hg hA => by obtain ⟨q0, -⟩ := hA; have q0e : r (.tmp 14) = .int .i64 ((1 : Nat) : Int) := q0; exact ⟨rfl, by simp [go_sem, q0e]⟩) ?_
                refine tab_val (.pointer (some ⟨bm, 2, none⟩)) (fun r w1 hr hg hA => by obtain ⟨⟨_, q0⟩, ⟨_, q1⟩, -⟩ := hA; have q0e : r (.tmp 79) = .slice (some ⟨bm, 0, none⟩) 2 2 := q0; have q1e : r (.tmp 80) = .int .i64 ((1 : Nat) : Int) := q1; exact ⟨rfl, by simp [go_sem, q0e, q1e]⟩) ?_
                refine tab_val (.agg #[.int .i64 dx, .int .i64 dy]) (fun r w1 hr hg hA => by obtain ⟨⟨_, q0⟩, -⟩ := hA; have q0e : r (.tmp 81) = .pointer (some ⟨bm, 2, none⟩) := q0; have hc := HF2.out w1 (HG.out.trans (hg1.trans hg)); exact ⟨rfl, by simp [go_sem, q0e, hc]⟩) ?_
                refine tab_call (v := .bool false) (fun w1 hg => HM2.out w1) (fun r w1 hr hg hA => by obtain ⟨⟨_, q0⟩, ⟨_, q1⟩, ⟨_, q2⟩, -⟩ := hA; have q0e : r (.tmp 77) = .agg #[.int .i64 ax, .int .i64 ay] := q0; have q1e : r (.tmp 78) = .agg #[.int .i64 bx, .int .i64 b_y] := q1; have q2e : r (.tmp 82) = .agg #[.int .i64 dx, .int .i64 dy] := q2; exact ⟨rfl, by simp [go_sem, hr.func, q0e, q1e, q2e]⟩) ?_
                refine tab_end ?_
                simp only [List.reverse_cons, List.reverse_nil, List.nil_append, List.cons_append, Out, BlockP, forall_eq, forall_const, Act.put, List.setIfInBounds_toArray, List.set_cons_succ, List.set_cons_zero]
                intro wt hgA
                have HG' := Lib.hid (HG.out.trans (hg1.trans hgA))
                clear hg1 hgA hg1' hw0 HG
                have HG := HG'
                clear HG'
                go_wp2
                exact ⟨⟨2, by omega, by first | (simp [cnt, bi, wrap64]; done) | (cases m1 <;> simp [cnt, bi, wrap64]; done), by simp, HG⟩, by simp only [intOf]; omega⟩
              · refine wp_region_tab 7 (by kernel_rfl) (by kernel_rfl) ?_
                intro w0 hw0 hg1 hg1'
                simp only [List.take_succ_cons, List.take_zero, List.drop_succ_cons, List.drop_zero]
                refine tab_val (.agg #[.int .i64 ax, .int .i64 ay]) (fun r w1 hr hg hA => by obtain ⟨q0, -⟩ := hA; have q0e : r (.tmp 4) = .pointer (some ⟨w.heap.size, 0, none⟩) := q0; have hc := HF2.out w1 (HG.out.trans (hg1.trans hg)); exact ⟨rfl, by simp [go_sem, q0e, hc]⟩) ?_
                refine tab_val (.agg #[.int .i64 bx, .int .i64 b_y]) (fun r w1 hr hg hA => by obtain ⟨q0, -⟩ := hA; have q0e : r (.tmp 5) = .pointer (some ⟨w.heap.size + 1, 0, none⟩) := q0; have hc := HF2.out w1 (HG.out.trans (hg1.trans hg)); exact ⟨rfl, by simp [go_sem, q0e, hc]⟩) ?_
                refine tab_val (.slice (some ⟨bm, 0, none⟩) 2 2) (fun r w1 hr hg hA => by obtain ⟨q0, -⟩ := hA; have q0e : r (.tmp 11) = .slice (some ⟨bm, 0, none⟩) 2 2 := q0; exact ⟨rfl, by simp [go_sem, q0e]⟩) ?_
                refine tab_val (.int .i64 ((1 : Nat) : Int)) (fun r w1 hr hg hA => by obtain ⟨q0, -⟩ := hA; have q0e : r (.tmp 14) = .int .i64 ((1 : Nat) : Int) := q0; exact ⟨rfl, by simp [go_sem, q0e]⟩) ?_
                refine tab_val (.pointer (some ⟨bm, 2, none⟩)) (fun r w1 hr hg hA => by obtain ⟨⟨_, q0⟩, ⟨_, q1⟩, -⟩ := hA; have q0e : r (.tmp 79) = .slice (some ⟨bm, 0, none⟩) 2 2 := q0; have q1e : r (.tmp 80) = .int .i64 ((1 : Nat) : Int) := q1; exact ⟨rfl, by simp [go_sem, q0e, q1e]⟩) ?_
                refine tab_val (.agg #[.int .i64 dx, .int .i64 dy]) (fun r w1 hr hg hA => by obtain ⟨⟨_, q0⟩, -⟩ := hA; have q0e : r (.tmp 81) = .pointer (some ⟨bm, 2, none⟩) := q0; have hc := HF2.out w1 (HG.out.trans (hg1.trans hg)); exact ⟨rfl, by simp [go_sem, q0e, hc]⟩) ?_
                refine tab_call (v := .bool true) (fun w1 hg => HM2.out w1) (fun r w1 hr hg hA => by obtain ⟨⟨_, q0⟩, ⟨_, q1⟩, ⟨_, q2⟩, -⟩ := hA; have q0e : r (.tmp 77) = .agg #[.int .i64 ax, .int .i64 ay] := q0; have q1e : r (.tmp 78) = .agg #[.int .i64 bx, .int .i64 b_y] := q1; have q2e : r (.tmp 82) = .agg #[.int .i64 dx, .int .i64 dy] := q2; exact ⟨rfl, by simp [go_sem, hr.func, q0e, q1e, q2e]⟩) ?_
                refine tab_end ?_
                simp only [List.reverse_cons, List.reverse_nil, List.nil_append, List.cons_append, Out, BlockP, forall_eq, forall_const, Act.put, List.setIfInBounds_toArray, List.set_cons_succ, List.set_cons_zero]
                intro wt hgA
                have HG' := Lib.hid (HG.out.trans (hg1.trans hgA))
                clear hg1 hgA hg1' hw0 HG
                have HG := HG'
                clear HG'
                go_wp2
                exact ⟨⟨2, by omega, by first | (simp [cnt, bi, wrap64]; done) | (cases m1 <;> simp [cnt, bi, wrap64]; done), by simp, HG⟩, by simp only [intOf]; omega⟩
            · have HRF : Hid (rf = if 1 < cnt n1 n2 2 + cnt m1 m2 2 - cnt (n1 && e1) (n2 && e2) 2 then 4 else if cnt n1 n2 2 + cnt m1 m2 2 - cnt (n1 && e1) (n2 && e2) 2 = 1 then (if cnt (n1 && e1) (n2 && e2) 2 = 1 then 1 else 2) else if signI C ≠ signI D ∧ signI A ≠ signI B then 3 else 0) := Lib.hid (HR.out.trans (by unfold refN; rw [if_neg (by decide)]; rfl))
              obtain ⟨n0, n9⟩ := cnt_bd n1 n2 2
              obtain ⟨m0, m9⟩ := cnt_bd m1 m2 2
              obtain ⟨t0, t9⟩ := cnt_bd (n1 && e1) (n2 && e2) 2
              generalize cnt n1 n2 2 = N at HRF n0 n9 ⊢
              generalize cnt m1 m2 2 = M at HRF m0 m9 ⊢
              generalize cnt (n1 && e1) (n2 && e2) 2 = Z at HRF t0 t9 ⊢
              by_cases p4 : 1 < N + M - Z
              · have HX := Lib.hid (HRF.out.trans (if_pos p4))
                go_wp2
                go_ret
                exact ⟨by rw [HX.out]; rfl, GM.out.trans HG.out⟩
              · have HX := Lib.hid (HRF.out.trans (if_neg p4))
                by_cases p1 : N + M - Z = 1
                · have HY := Lib.hid (HX.out.trans (if_pos p1))
                  have b1 : (N + M - Z == 1) = true := by simpa using p1
                  clear p1
                  by_cases pz : Z = 1
                  · have HZ := Lib.hid (HY.out.trans (if_pos pz))
                    have bz : (Z == 1) = true := by simpa using pz
                    clear pz
                    go_wp2
                    go_ret
                    exact ⟨by rw [HZ.out]; rfl, GM.out.trans HG.out⟩
                  · have HZ := Lib.hid (HY.out.trans (if_neg pz))
                    have bz : (Z == 1) = false := by simpa using pz
                    clear pz
                    go_wp2
                    go_ret
                    exact ⟨by rw [HZ.out]; rfl, GM.out.trans HG.out⟩
                · have HY := Lib.hid (HX.out.trans (if_neg p1))
                  have b1 : (N + M - Z == 1) = false := by simpa using p1
                  go_wp2_with fail
                  refine wp_region_tab 12 (by kernel_rfl) (by kernel_rfl) ?_
                  intro w0 hw0 hg1 hg1'
                  simp only [List.take_succ_cons, List.take_zero, List.drop_succ_cons, List.drop_zero]
                  refine tab_val (.agg #[.int .i64 ax, .int .i64 ay]) (fun r w1 hr hg hA => by obtain ⟨q0, -⟩ := hA; have q0e : r (.tmp 4) = .pointer (some ⟨w.heap.size, 0, none⟩) := q0; have hc := HF2.out w1 (HG.out.trans (hg1.trans hg)); exact ⟨rfl, by simp [go_sem, q0e, hc]⟩) ?_
                  refine tab_val (.agg #[.int .i64 bx, .int .i64 b_y]) (fun r w1 hr hg hA => by obtain ⟨q0, -⟩ := hA; have q0e : r (.tmp 5) = .pointer (some ⟨w.heap.size + 1, 0, none⟩) := q0; have hc := HF2.out w1 (HG.out.trans (hg1.trans hg)); exact ⟨rfl, by simp [go_sem, q0e, hc]⟩) ?_
                  refine tab_val (.agg #[.int .i64 cx, .int .i64 cy]) (fun r w1 hr hg hA => by obtain ⟨q0, -⟩ := hA; have q0e : r (.tmp 6) = .pointer (some ⟨w.heap.size + 1 + 1, 0, none⟩) := q0; have hc := HF2.out w1 (HG.out.trans (hg1.trans hg)); exact ⟨rfl, by simp [go_sem, q0e, hc]⟩) ?_
                  refine tab_call (v := .int .i64 C) (fun w1 hg => HK1.out w1) (fun r w1 hr hg hA => by obtain ⟨⟨_, q0⟩, ⟨_, q1⟩, ⟨_, q2⟩, -⟩ := hA; have q0e : r (.tmp 97) = .agg #[.int .i64 ax, .int .i64 ay] := q0; have q1e : r (.tmp 98) = .agg #[.int .i64 bx, .int .i64 b_y] := q1; have q2e : r (.tmp 99) = .agg #[.int .i64 cx, .int .i64 cy] := q2; exact ⟨rfl, by simp [go_sem, hr.func, q0e, q1e, q2e]⟩) ?_
                  refine tab_call (v := .int .i64 (signI C)) (fun w1 hg => HS.out C w1) (fun r w1 hr hg hA => by obtain ⟨⟨_, q0⟩, -⟩ := hA; have q0e : r (.tmp 100) = .int .i64 C := q0; exact ⟨rfl, by simp [go_sem, hr.func, q0e]⟩) ?_
                  refine tab_val (.agg #[.int .i64 ax, .int .i64 ay]) (fun r w1 hr hg hA => by obtain ⟨q0, -⟩ := hA; have q0e : r (.tmp 4) = .pointer (some ⟨w.heap.size, 0, none⟩) := q0; have hc := HF2.out w1 (HG.out.trans (hg1.trans hg)); exact ⟨rfl, by simp [go_sem, q0e, hc]⟩) ?_
                  refine tab_val (.agg #[.int .i64 bx, .int .i64 b_y]) (fun r w1 hr hg hA => by obtain ⟨q0, -⟩ := hA; have q0e : r (.tmp 5) = .pointer (some ⟨w.heap.size + 1, 0, none⟩) := q0; have hc := HF2.out w1 (HG.out.trans (hg1.trans hg)); exact ⟨rfl, by simp [go_sem, q0e, hc]⟩) ?_
                  refine tab_val (.agg #[.int .i64 dx, .int .i64 dy]) (fun r w1 hr hg hA => by obtain ⟨q0, -⟩ := hA; have q0e : r (.tmp 7) = .pointer (some ⟨w.heap.size + 1 + 1 + 1, 0, none⟩) := q0; have hc := HF2.out w1 (HG.out.trans (hg1.trans hg)); exact ⟨rfl, by simp [go_sem, q0e, hc]⟩) ?_
                  refine tab_call (v := .int .i64 D) (fun w1 hg => HK2.out w1) (fun r w1 hr hg hA => by obtain ⟨⟨_, q0⟩, ⟨_, q1⟩, ⟨_, q2⟩, -⟩ := hA; have q0e : r (.tmp 102) = .agg #[.int .i64 ax, .int .i64 ay] := q0; have q1e : r (.tmp 103) = .agg #[.int .i64 bx, .int .i64 b_y] := q1; have q2e : r (.tmp 104) = .agg #[.int .i64 dx, .int .i64 dy] := q2; exact ⟨rfl, by simp [go_sem, hr.func, q0e, q1e, q2e]⟩) ?_
                  refine tab_call (v := .int .i64 (signI D)) (fun w1 hg => HS.out D w1) (fun r w1 hr hg hA => by obtain ⟨⟨_, q0⟩, -⟩ := hA; have q0e : r (.tmp 105) = .int .i64 D := q0; exact ⟨rfl, by simp [go_sem, hr.func, q0e]⟩) ?_
                  refine tab_val (.int .i64 (signI C)) (fun r w1 hr hg hA => by obtain ⟨⟨_, q0⟩, -⟩ := hA; have q0e : r (.tmp 101) = .int .i64 (signI C) := q0; exact ⟨rfl, by simp [go_sem, q0e]⟩) ?_
                  refine tab_val (.int .i64 (signI D)) (fun r w1 hr hg hA => by obtain ⟨⟨_, q0⟩, -⟩ := hA; have q0e : r (.tmp 106) = .int .i64 (signI D) := q0; exact ⟨rfl, by simp [go_sem, q0e]⟩) ?_
                  refine tab_end ?_
                  simp only [List.reverse_cons, List.reverse_nil, List.nil_append, List.cons_append, Out, BlockP, forall_eq, forall_const, Act.put, List.setIfInBounds_toArray, List.set_cons_succ, List.set_cons_zero]
                  intro wt hgA
                  have HG' := Lib.hid (HG.out.trans (hg1.trans hgA))
                  clear hg1 hgA hg1' hw0 HG
                  have HG := HG'
                  clear HG'
                  go_wp2_with fail
                  refine wp_region_tab 12 (by kernel_rfl) (by kernel_rfl) ?_
                  intro w0 hw0 hg1 hg1'
                  simp only [List.take_succ_cons, List.take_zero, List.drop_succ_cons, List.drop_zero]
                  refine tab_val (.agg #[.int .i64 cx, .int .i64 cy]) (fun r w1 hr hg hA => by obtain ⟨q0, -⟩ := hA; have q0e : r (.tmp 6) = .pointer (some ⟨w.heap.size + 1 + 1, 0, none⟩) := q0; have hc := HF2.out w1 (HG.out.trans (hg1.trans hg)); exact ⟨rfl, by simp [go_sem, q0e, hc]⟩) ?_
                  refine tab_val (.agg #[.int .i64 dx, .int .i64 dy]) (fun r w1 hr hg hA => by obtain ⟨q0, -⟩ := hA; have q0e : r (.tmp 7) = .pointer (some ⟨w.heap.size + 1 + 1 + 1, 0, none⟩) := q0; have hc := HF2.out w1 (HG.out.trans (hg1.trans hg)); exact ⟨rfl, by simp [go_sem, q0e, hc]⟩) ?_
                  refine tab_val (.agg #[.int .i64 ax, .int .i64 ay]) (fun r w1 hr hg hA => by obtain ⟨q0, -⟩ := hA; have q0e : r (.tmp 4) = .pointer (some ⟨w.heap.size, 0, none⟩) := q0; have hc := HF2.out w1 (HG.out.trans (hg1.trans hg)); exact ⟨rfl, by simp [go_sem, q0e, hc]⟩) ?_
                  refine tab_call (v := .int .i64 A) (fun w1 hg => HK3.out w1) (fun r w1 hr hg hA => by obtain ⟨⟨_, q0⟩, ⟨_, q1⟩, ⟨_, q2⟩, -⟩ := hA; have q0e : r (.tmp 107) = .agg #[.int .i64 cx, .int .i64 cy] := q0; have q1e : r (.tmp 108) = .agg #[.int .i64 dx, .int .i64 dy] := q1; have q2e : r (.tmp 109) = .agg #[.int .i64 ax, .int .i64 ay] := q2; exact ⟨rfl, by simp [go_sem, hr.func, q0e, q1e, q2e]⟩) ?_
                  refine tab_call (v := .int .i64 (signI A)) (fun w1 hg => HS.out A w1) (fun r w1 hr hg hA => by obtain ⟨⟨_, q0⟩, -⟩ := hA; have q0e : r (.tmp 110) = .int .i64 A := q0; exact ⟨rfl, by simp [go_sem, hr.func, q0e]⟩) ?_
                  refine tab_val (.agg #[.int .i64 cx, .int .i64 cy]) (fun r w1 hr hg hA => by obtain ⟨q0, -⟩ := hA; have q0e : r (.tmp 6) = .pointer (some ⟨w.heap.size + 1 + 1, 0, none⟩) := q0; have hc := HF2.out w1 (HG.out.trans (hg1.trans hg)); exact ⟨rfl, by simp [go_sem, q0e, hc]⟩) ?_
                  refine tab_val (.agg #[.int .i64 dx, .int .i64 dy]) (fun r w1 hr hg hA => by obtain ⟨q0, -⟩ := hA; have q0e : r (.tmp 7) = .pointer (some ⟨w.heap.size + 1 + 1 + 1, 0, none⟩) := q0; have hc := HF2.out w1 (HG.out.trans (hg1.trans hg)); exact ⟨rfl, by simp [go_sem, q0e, hc]⟩) ?_
                  refine tab_val (.agg #[.int .i64 bx, .int .i64 b_y]) (fun r w1 hr hg hA => by obtain ⟨q0, -⟩ := hA; have q0e : r (.tmp 5) = .pointer (some ⟨w.heap.size + 1, 0, none⟩) := q0; have hc := HF2.out w1 (HG.out.trans (hg1.trans hg)); exact ⟨rfl, by simp [go_sem, q0e, hc]⟩) ?_
                  refine tab_call (v := .int .i64 B) (fun w1 hg => HK4.out w1) (fun r w1 hr hg hA => by obtain ⟨⟨_, q0⟩, ⟨_, q1⟩, ⟨_, q2⟩, -⟩ := hA; have q0e : r (.tmp 112) = .agg #[.int .i64 cx, .int .i64 cy] := q0; have q1e : r (.tmp 113) = .agg #[.int .i64 dx, .int .i64 dy] := q1; have q2e : r (.tmp 114) = .agg #[.int .i64 bx, .int .i64 b_y] := q2; exact ⟨rfl, by simp [go_sem, hr.func, q0e, q1e, q2e]⟩) ?_
                  refine tab_call (v := .int .i64 (signI B)) (fun w1 hg => HS.out B w1) (fun r w1 hr hg hA => by obtain ⟨⟨_, q0⟩, -⟩ := hA; have q0e : r (.tmp 115) = .int .i64 B := q0; exact ⟨rfl, by simp [go_sem, hr.func, q0e]⟩) ?_
                  refine tab_val (.int .i64 (signI A)) (fun r w1 hr hg hA => by obtain ⟨⟨_, q0⟩, -⟩ := hA; have q0e : r (.tmp 111) = .int .i64 (signI A) := q0; exact ⟨rfl, by simp [go_sem, q0e]⟩) ?_
                  refine tab_val (.int .i64 (signI B)) (fun r w1 hr hg hA => by obtain ⟨⟨_, q0⟩, -⟩ := hA; have q0e : r (.tmp 116) = .int .i64 (signI B) := q0; exact ⟨rfl, by simp [go_sem, q0e]⟩) ?_
                  refine tab_end ?_
                  simp only [List.reverse_cons, List.reverse_nil, List.nil_append, List.cons_append, Out, BlockP, forall_eq, forall_const, Act.put, List.setIfInBounds_toArray, List.set_cons_succ, List.set_cons_zero]
                  intro wu hgA
                  have HG' := Lib.hid (HG.out.trans (hg1.trans hgA))
                  clear hg1 hgA hg1' hw0 HG
                  have HG := HG'
                  clear HG'
                  clear p1 p4 b1
                  generalize signI C = sC at HY ⊢
                  generalize signI D = sD at HY ⊢
                  generalize signI A = sA at HY ⊢
                  generalize signI B = sB at HY ⊢
                  cases q1 : (sC != sD) with
                  | false =>
                    have HZ := Lib.hid (HY.out.trans (if_neg (fun h => by simp at q1; exact h.1 q1)))
                    go_wp2
                    go_ret
                    exact ⟨by rw [HZ.out]; rfl, GM.out.trans HG.out⟩
                  | true =>
                    cases q2 : (sA != sB) with
                    | false =>
                      have HZ := Lib.hid (HY.out.trans (if_neg (fun h => by simp at q2; exact h.2 q2)))
                      go_wp2
                      go_ret
                      exact ⟨by rw [HZ.out]; rfl, GM.out.trans HG.out⟩
                    | true =>
                      have HZ := Lib.hid (HY.out.trans (if_pos ⟨by simpa using q1, by simpa using q2⟩))
                      go_wp2
                      go_ret
                      exact ⟨by rw [HZ.out]; rfl, GM.out.trans HG.out⟩
end Go.Proofs.Ytlgplhanhnjeiaa
