/-
  Layer 2: how two segments of one line lie.
-/
import Derived.Deep.DeepCutAuto
import Derived.Test.YtlgplhanhnjeiaaS2
namespace Go.Proofs.Ytlgplhanhnjeiaa
open Go.RowKit Go.Tab

theorem box4 {w w1 : World} {T : TypeId} {x0 y0 x1 y1 x2 y2 x3 y3 : Value} (h : Grows ((((w.alloc (.cells #[x0, y0] T)).alloc (.cells #[x1, y1] T)).alloc (.cells #[x2, y2] T)).alloc (.cells #[x3, y3] T)) w1) :
    w1.heap[w.heap.size]? = some (.cells #[x0, y0] T (0, 0)) ∧ w1.heap[w.heap.size + 1]? = some (.cells #[x1, y1] T (0, 0)) ∧ w1.heap[w.heap.size + 1 + 1]? = some (.cells #[x2, y2] T (0, 0)) ∧ w1.heap[w.heap.size + 1 + 1 + 1]? = some (.cells #[x3, y3] T (0, 0)) := by
  refine ⟨h.block ((((Grows.refl _).al _).al _ |>.al _).block (heap_new w _ _ rfl)), h.block (((Grows.refl _).al _ |>.al _).block (heap_new (w.alloc _) _ _ (by simp))), h.block ((Grows.alloc _ _).block (heap_new ((w.alloc _).alloc _) _ _ (by simp))), h.block (heap_new (((w.alloc _).alloc _).alloc _) _ _ (by simp))⟩

set_option maxHeartbeats 4000000 in
theorem along_any (a b c d : Pt) (w : World) : Calls Try.prog 23 #[pp a, pp b, pp c, pp d] w (Ret (.int .i64 (alongF a b c d)) w) := by
  have H1 := Lib.hid (rising_any a b)
  have H2 := Lib.hid (rising_any c d)
  have HL := Lib.hid less_pt
  unfold alongF
  generalize lo a b = a1 at H1 ⊢
  generalize hi a b = b1 at H1 ⊢
  generalize lo c d = c1 at H2 ⊢
  generalize hi c d = d1 at H2 ⊢
  obtain ⟨ax, ay⟩ := a
  obtain ⟨bx, b_y⟩ := b
  obtain ⟨cx, cy⟩ := c
  obtain ⟨dx, dy⟩ := d
  obtain ⟨px, py⟩ := a1
  obtain ⟨qx, qy⟩ := b1
  obtain ⟨rx, ry⟩ := c1
  obtain ⟨sx, sy⟩ := d1
  unfold pp at H1 H2 HL ⊢
  simp only at H1 H2 HL ⊢
  go_enter Try.func23, Try.ntmps23
  go_wp2_with fail
  refine (H1.out _).mono ?_
  rintro _ w1 ⟨rfl, hg⟩
  obtain ⟨h0, h1, h2, h3⟩ := box4 hg
  obtain ⟨a0, a1, f0, f1⟩ := cells2 h0
  obtain ⟨b0, b1, g0, g1⟩ := cells2 h1
  obtain ⟨c0, c1, -, -⟩ := cells2 h2
  obtain ⟨d0, d1, -, -⟩ := cells2 h3
  have G1 := Lib.hid ((((((Grows.refl w).al _).al _).al _).al _).trans hg)
  have hs : w.heap.size + 3 < w1.heap.size := by have := hg.size; simp only [World.size_alloc] at this; omega
  have H0 := Lib.hid h0
  have HH1 := Lib.hid h1
  have HH2 := Lib.hid h2
  have HH3 := Lib.hid h3
  clear hg h0 h1 h2 h3
  have hA0 := Lib.hid ((set2o (b := w.heap.size + 1) (x := .int .i64 qx) (y := .int .i64 qy) (by omega)).trans (set2 (x := .int .i64 px) (y := .int .i64 py) H0.out))
  have hA1 := Lib.hid (set2 (x := .int .i64 qx) (y := .int .i64 qy) ((set2o (b := w.heap.size) (x := .int .i64 px) (y := .int .i64 py) (by omega)).trans HH1.out))
  have hA2 := Lib.hid ((set2o (b := w.heap.size + 1) (x := .int .i64 qx) (y := .int .i64 qy) (by omega)).trans ((set2o (b := w.heap.size) (x := .int .i64 px) (y := .int .i64 py) (by omega)).trans HH2.out))
  have hA3 := Lib.hid ((set2o (b := w.heap.size + 1) (x := .int .i64 qx) (y := .int .i64 qy) (by omega)).trans ((set2o (b := w.heap.size) (x := .int .i64 px) (y := .int .i64 py) (by omega)).trans HH3.out))
  have GA := Lib.hid ((((G1.out.st (p := ⟨w.heap.size, 0, none⟩) (Nat.le_refl _) (.int .i64 px)).st (p := ⟨w.heap.size, 1, none⟩) (Nat.le_refl _) (.int .i64 py)).st (p := ⟨w.heap.size + 1, 0, none⟩) (Nat.le_succ _) (.int .i64 qx)).st (p := ⟨w.heap.size + 1, 1, none⟩) (Nat.le_succ _) (.int .i64 qy))
  go_wp2_with fail
  clear H1 a0 a1 b0 b1 c0 c1 d0 d1 f0 f1 g0 g1 hs H0 HH1 HH2 HH3 G1
  generalize (((w1.setCell ⟨w.heap.size, 0, none⟩ (.int .i64 px)).setCell ⟨w.heap.size, 1, none⟩ (.int .i64 py)).setCell ⟨w.heap.size + 1, 0, none⟩ (.int .i64 qx)).setCell ⟨w.heap.size + 1, 1, none⟩ (.int .i64 qy) = wa at hA0 hA1 hA2 hA3 GA ⊢
  refine (H2.out _).mono ?_
  rintro _ w2 ⟨rfl, hg⟩
  have h0 := hg.block hA0.out
  have h1 := hg.block hA1.out
  have h2 := hg.block hA2.out
  have h3 := hg.block hA3.out
  obtain ⟨a0, a1, -, -⟩ := cells2 h0
  obtain ⟨b0, b1, -, -⟩ := cells2 h1
  obtain ⟨c0, c1, f0, f1⟩ := cells2 h2
  obtain ⟨d0, d1, g0, g1⟩ := cells2 h3
  have G2 := Lib.hid (GA.out.trans hg)
  have H0 := Lib.hid h0
  have HH1 := Lib.hid h1
  have HH2 := Lib.hid h2
  have HH3 := Lib.hid h3
  clear hg h0 h1 h2 h3 hA0 hA1 hA2 hA3 GA
  have hA0 := Lib.hid ((set2o (b := w.heap.size + 1 + 1 + 1) (x := .int .i64 sx) (y := .int .i64 sy) (by omega)).trans ((set2o (b := w.heap.size + 1 + 1) (x := .int .i64 rx) (y := .int .i64 ry) (by omega)).trans H0.out))
  have hA1 := Lib.hid ((set2o (b := w.heap.size + 1 + 1 + 1) (x := .int .i64 sx) (y := .int .i64 sy) (by omega)).trans ((set2o (b := w.heap.size + 1 + 1) (x := .int .i64 rx) (y := .int .i64 ry) (by omega)).trans HH1.out))
  have hA2 := Lib.hid ((set2o (b := w.heap.size + 1 + 1 + 1) (x := .int .i64 sx) (y := .int .i64 sy) (by omega)).trans (set2 (x := .int .i64 rx) (y := .int .i64 ry) HH2.out))
  have hA3 := Lib.hid (set2 (x := .int .i64 sx) (y := .int .i64 sy) ((set2o (b := w.heap.size + 1 + 1) (x := .int .i64 rx) (y := .int .i64 ry) (by omega)).trans HH3.out))
  have GA := Lib.hid ((((G2.out.st (p := ⟨w.heap.size + 1 + 1, 0, none⟩) (by simp; omega) (.int .i64 rx)).st (p := ⟨w.heap.size + 1 + 1, 1, none⟩) (by simp; omega) (.int .i64 ry)).st (p := ⟨w.heap.size + 1 + 1 + 1, 0, none⟩) (by simp; omega) (.int .i64 sx)).st (p := ⟨w.heap.size + 1 + 1 + 1, 1, none⟩) (by simp; omega) (.int .i64 sy))
  go_upto_region 3 with (fail)
  clear H2 a0 a1 b0 b1 c0 c1 d0 d1 f0 f1 g0 g1 H0 HH1 HH2 HH3 G2
  generalize (((w2.setCell ⟨w.heap.size + 1 + 1, 0, none⟩ (.int .i64 rx)).setCell ⟨w.heap.size + 1 + 1, 1, none⟩ (.int .i64 ry)).setCell ⟨w.heap.size + 1 + 1 + 1, 0, none⟩ (.int .i64 sx)).setCell ⟨w.heap.size + 1 + 1 + 1, 1, none⟩ (.int .i64 sy) = wb at hA0 hA1 hA2 hA3 GA ⊢
  obtain ⟨a0, a1, -, -⟩ := cells2 hA0.out
  obtain ⟨b0, b1, -, -⟩ := cells2 hA1.out
  obtain ⟨c0, c1, -, -⟩ := cells2 hA2.out
  obtain ⟨d0, d1, -, -⟩ := cells2 hA3.out
  go_cut [30] (fun v wx => v = .bool (decide ((px = rx ∧ py = ry) ∧ qx = sx ∧ qy = sy)) ∧ wx = wb)
  case first =>
    go_wp2_with fail
    all_goals
      go_meet
      exact ⟨by simp [*], rfl⟩
  case rest =>
    obtain ⟨hv, hwc⟩ := hcut
    have hwc := hwc.symm
    subst hwc
    by_cases hq : (px = rx ∧ py = ry) ∧ qx = sx ∧ qy = sy
    · rw [decide_eq_true hq] at hv
      subst hv
      have HV : Hid (alongG (px, py) (qx, qy) (rx, ry) (sx, sy) = 5) := Lib.hid (by
        unfold alongG
        rw [if_pos ⟨Prod.ext hq.1.1 hq.1.2, Prod.ext hq.2.1 hq.2.2⟩])
      clear hq
      go_wp2
      go_ret
      exact ⟨by rw [HV.out]; rfl, GA.out⟩
    · rw [decide_eq_false hq] at hv
      subst hv
      have HN := Lib.hid (show ¬ (((px, py) : Pt) = (rx, ry) ∧ ((qx, qy) : Pt) = (sx, sy)) from fun h => hq ⟨⟨congrArg Prod.fst h.1, congrArg Prod.snd h.1⟩, congrArg Prod.fst h.2, congrArg Prod.snd h.2⟩)
      clear hq
      go_upto_region 5 with (fail)
      go_cut [9, 10] (fun p q wx => ∃ b9 b10, p = .pointer (some ⟨b9, 0, none⟩) ∧ q = .pointer (some ⟨b10, 0, none⟩) ∧ wb.heap.size ≤ b9 ∧ wb.heap.size ≤ b10 ∧ b9 ≠ b10 ∧ wx.heap[b9]? = some (.cells #[.int .i64 px, .int .i64 py] 23 (0, 0)) ∧ wx.heap[b10]? = some (.cells #[.int .i64 qx, .int .i64 qy] 23 (0, 0)) ∧ Grows wb wx)
      case first =>
        have m00 : ∀ o, (wb.alloc o).cell? ⟨w.heap.size, 0, none⟩ = some (.int .i64 px) := fun o => (cells2 ((Grows.alloc wb o).block hA0.out)).1
        have n00 : ∀ o o', ((wb.alloc o).alloc o').cell? ⟨w.heap.size, 0, none⟩ = some (.int .i64 px) := fun o o' => (cells2 (((Grows.alloc wb o).al o').block hA0.out)).1
        have m01 : ∀ o, (wb.alloc o).cell? ⟨w.heap.size, 1, none⟩ = some (.int .i64 py) := fun o => (cells2 ((Grows.alloc wb o).block hA0.out)).2.1
        have n01 : ∀ o o', ((wb.alloc o).alloc o').cell? ⟨w.heap.size, 1, none⟩ = some (.int .i64 py) := fun o o' => (cells2 (((Grows.alloc wb o).al o').block hA0.out)).2.1
        have m10 : ∀ o, (wb.alloc o).cell? ⟨w.heap.size + 1, 0, none⟩ = some (.int .i64 qx) := fun o => (cells2 ((Grows.alloc wb o).block hA1.out)).1
        have n10 : ∀ o o', ((wb.alloc o).alloc o').cell? ⟨w.heap.size + 1, 0, none⟩ = some (.int .i64 qx) := fun o o' => (cells2 (((Grows.alloc wb o).al o').block hA1.out)).1
        have m11 : ∀ o, (wb.alloc o).cell? ⟨w.heap.size + 1, 1, none⟩ = some (.int .i64 qy) := fun o => (cells2 ((Grows.alloc wb o).block hA1.out)).2.1
        have n11 : ∀ o o', ((wb.alloc o).alloc o').cell? ⟨w.heap.size + 1, 1, none⟩ = some (.int .i64 qy) := fun o o' => (cells2 (((Grows.alloc wb o).al o').block hA1.out)).2.1
        go_region
        all_goals go_wp2
        all_goals go_meet
        all_goals first
          | exact ⟨wb.heap.size, wb.heap.size + 1, rfl, rfl, Nat.le_refl _, Nat.le_succ _, by omega, (Grows.alloc _ _).block (heap_new wb _ _ rfl), heap_new (wb.alloc _) _ _ (by simp), ((Grows.alloc wb _).al _).dr⟩
          | exact ⟨wb.heap.size + 1, wb.heap.size, rfl, rfl, Nat.le_succ _, Nat.le_refl _, by omega, heap_new (wb.alloc _) _ _ (by simp), (Grows.alloc _ _).block (heap_new wb _ _ rfl), ((Grows.alloc wb _).al _).dr⟩
      case rest =>
        obtain ⟨b9, b10, rfl, rfl, k9, k10, kne, hb9, hb10, hgx⟩ := hcut
        have HLac := Lib.hid (HL.out (px, py) (rx, ry))
        have HLdb := Lib.hid (HL.out (sx, sy) (qx, qy))
        have HV : Hid (alongG (px, py) (qx, qy) (rx, ry) (sx, sy) = if (if le2 (px, py) (rx, ry) = true then ((rx, ry) : Pt) else (px, py)) = (if le2 (sx, sy) (qx, qy) = true then ((sx, sy) : Pt) else (qx, qy)) then 1 else if le2 (if le2 (sx, sy) (qx, qy) = true then ((sx, sy) : Pt) else (qx, qy)) (if le2 (px, py) (rx, ry) = true then ((rx, ry) : Pt) else (px, py)) = true then 0 else 4) := Lib.hid (by
          unfold alongG
          rw [if_neg HN.out])
        generalize le2 (px, py) (rx, ry) = l1 at HLac HV
        generalize le2 (sx, sy) (qx, qy) = l2 at HLdb HV
        have B9 := Lib.hid hb9
        have B10 := Lib.hid hb10
        have BC := Lib.hid (hgx.block hA2.out)
        have BD := Lib.hid (hgx.block hA3.out)
        have G := Lib.hid (GA.out.trans hgx)
        have hsw : Hid (w.heap.size + 4 ≤ wb.heap.size) := Lib.hid (by have := (Array.getElem?_eq_some_iff.1 hA3.out).1; omega)
        have hsb : w.heap.size + 4 ≤ wb.heap.size := hsw.out
        clear hb9 hb10 hgx hA0 hA1 hA2 hA3 GA HN a0 a1 b0 b1 c0 c1 d0 d1
        obtain ⟨e0, e1, e2, e3⟩ := cells2 B9.out
        obtain ⟨i0, i1, i2, i3⟩ := cells2 B10.out
        obtain ⟨c0, c1, -, -⟩ := cells2 BC.out
        obtain ⟨d0, d1, -, -⟩ := cells2 BD.out
        go_wp2_with fail
        refine (HLac.out _).mono ?_
        rintro _ w3 ⟨rfl, hg⟩
        have B9' := Lib.hid (hg.block B9.out)
        have B10' := Lib.hid (hg.block B10.out)
        have BC' := Lib.hid (hg.block BC.out)
        have BD' := Lib.hid (hg.block BD.out)
        have G' := Lib.hid (G.out.trans hg)
        clear hg B9 B10 BC BD G e0 e1 e2 e3 i0 i1 i2 i3 c0 c1 d0 d1
        have B9 := B9'
        have B10 := B10'
        have BC := BC'
        have BD := BD'
        have G := G'
        clear B9' B10' BC' BD' G'

        cases l1
        · simp only [if_false, Bool.false_eq_true] at HV
          obtain ⟨e0, e1, e2, e3⟩ := cells2 B9.out
          obtain ⟨i0, i1, i2, i3⟩ := cells2 B10.out
          obtain ⟨c0, c1, -, -⟩ := cells2 BC.out
          obtain ⟨d0, d1, -, -⟩ := cells2 BD.out
          go_wp2_with fail
          refine (HLdb.out _).mono ?_
          rintro _ w5 ⟨rfl, hg⟩
          have B9' := Lib.hid (hg.block B9.out)
          have B10' := Lib.hid (hg.block B10.out)
          have BC' := Lib.hid (hg.block BC.out)
          have BD' := Lib.hid (hg.block BD.out)
          have G' := Lib.hid (G.out.trans hg)
          clear hg B9 B10 BC BD G e0 e1 e2 e3 i0 i1 i2 i3 c0 c1 d0 d1
          have B9 := B9'
          have B10 := B10'
          have BC := BC'
          have BD := BD'
          have G := G'
          clear B9' B10' BC' BD' G'

          cases l2
          · simp only [if_false, Bool.false_eq_true] at HV
            obtain ⟨e0, e1, e2, e3⟩ := cells2 B9.out
            obtain ⟨i0, i1, i2, i3⟩ := cells2 B10.out
            obtain ⟨c0, c1, -, -⟩ := cells2 BC.out
            obtain ⟨d0, d1, -, -⟩ := cells2 BD.out
            have HLT := Lib.hid (HL.out (qx, qy) (px, py))
            by_cases hq : px = qx ∧ py = qy
            · rw [if_pos (Prod.ext hq.1 hq.2)] at HV
              obtain ⟨hq1, hq2⟩ := hq
              subst hq1
              subst hq2
              go_wp2_with fail
              go_ret
              exact ⟨by rw [HV.out]; rfl, G.out⟩
            · rw [if_neg (fun h => hq ⟨congrArg Prod.fst h, congrArg Prod.snd h⟩)] at HV
              cases ht : le2 (qx, qy) (px, py) <;> rw [ht] at HV HLT <;> simp only [if_true, if_false, Bool.false_eq_true] at HV
              all_goals
                clear ht
                have hq' : ¬ px = qx ∨ (px = qx ∧ ¬ py = qy) := by omega
                clear hq
                rcases hq' with hq | ⟨hq, hq2⟩
                rotate_left
                · subst hq
                  go_wp2_with fail
                  refine (HLT.out _).mono ?_
                  rintro _ w7 ⟨rfl, hg⟩
                  have G' := Lib.hid (G.out.trans hg)
                  clear hg
                  go_wp2
                  go_ret
                  exact ⟨by rw [HV.out]; rfl, G'.out⟩
                · go_wp2_with fail
                  refine (HLT.out _).mono ?_
                  rintro _ w7 ⟨rfl, hg⟩
                  have G' := Lib.hid (G.out.trans hg)
                  clear hg
                  go_wp2
                  go_ret
                  exact ⟨by rw [HV.out]; rfl, G'.out⟩

          · simp only [if_true] at HV
            have B10' := Lib.hid (set2 (x := .int .i64 sx) (y := .int .i64 sy) B10.out)
            have B9' := Lib.hid ((set2o (b := b10) (x := .int .i64 sx) (y := .int .i64 sy) kne).trans B9.out)
            have BC' := Lib.hid ((set2o (b := b10) (x := .int .i64 sx) (y := .int .i64 sy) (by omega)).trans BC.out)
            have BD' := Lib.hid ((set2o (b := b10) (x := .int .i64 sx) (y := .int .i64 sy) (by omega)).trans BD.out)
            have G' := Lib.hid ((G.out.st (p := ⟨b10, 0, none⟩) (by have := hsw.out; simp; omega) (.int .i64 sx)).st (p := ⟨b10, 1, none⟩) (by have := hsw.out; simp; omega) (.int .i64 sy))
            obtain ⟨e0, e1, e2, e3⟩ := cells2 B9.out
            obtain ⟨i0, i1, i2, i3⟩ := cells2 B10.out
            obtain ⟨c0, c1, -, -⟩ := cells2 BC.out
            obtain ⟨d0, d1, -, -⟩ := cells2 BD.out
            go_upto_region 10 with (fail)
            clear e0 e1 e2 e3 i0 i1 i2 i3 c0 c1 d0 d1 B9 B10 BC BD G
            generalize (w5.setCell ⟨b10, 0, none⟩ (.int .i64 sx)).setCell ⟨b10, 1, none⟩ (.int .i64 sy) = w6 at B9' B10' BC' BD' G' ⊢
            have B9 := B9'
            have B10 := B10'
            have BC := BC'
            have BD := BD'
            have G := G'
            clear B9' B10' BC' BD' G'

            obtain ⟨e0, e1, e2, e3⟩ := cells2 B9.out
            obtain ⟨i0, i1, i2, i3⟩ := cells2 B10.out
            obtain ⟨c0, c1, -, -⟩ := cells2 BC.out
            obtain ⟨d0, d1, -, -⟩ := cells2 BD.out
            have HLT := Lib.hid (HL.out (sx, sy) (px, py))
            by_cases hq : px = sx ∧ py = sy
            · rw [if_pos (Prod.ext hq.1 hq.2)] at HV
              obtain ⟨hq1, hq2⟩ := hq
              subst hq1
              subst hq2
              go_wp2_with fail
              go_ret
              exact ⟨by rw [HV.out]; rfl, G.out⟩
            · rw [if_neg (fun h => hq ⟨congrArg Prod.fst h, congrArg Prod.snd h⟩)] at HV
              cases ht : le2 (sx, sy) (px, py) <;> rw [ht] at HV HLT <;> simp only [if_true, if_false, Bool.false_eq_true] at HV
              all_goals
                clear ht
                have hq' : ¬ px = sx ∨ (px = sx ∧ ¬ py = sy) := by omega
                clear hq
                rcases hq' with hq | ⟨hq, hq2⟩
                rotate_left
                · subst hq
                  go_wp2_with fail
                  refine (HLT.out _).mono ?_
                  rintro _ w7 ⟨rfl, hg⟩
                  have G' := Lib.hid (G.out.trans hg)
                  clear hg
                  go_wp2
                  go_ret
                  exact ⟨by rw [HV.out]; rfl, G'.out⟩
                · go_wp2_with fail
                  refine (HLT.out _).mono ?_
                  rintro _ w7 ⟨rfl, hg⟩
                  have G' := Lib.hid (G.out.trans hg)
                  clear hg
                  go_wp2
                  go_ret
                  exact ⟨by rw [HV.out]; rfl, G'.out⟩


        · simp only [if_true] at HV
          have B9' := Lib.hid (set2 (x := .int .i64 rx) (y := .int .i64 ry) B9.out)
          have B10' := Lib.hid ((set2o (b := b9) (x := .int .i64 rx) (y := .int .i64 ry) kne.symm).trans B10.out)
          have BC' := Lib.hid ((set2o (b := b9) (x := .int .i64 rx) (y := .int .i64 ry) (by omega)).trans BC.out)
          have BD' := Lib.hid ((set2o (b := b9) (x := .int .i64 rx) (y := .int .i64 ry) (by omega)).trans BD.out)
          have G' := Lib.hid ((G.out.st (p := ⟨b9, 0, none⟩) (by have := hsw.out; simp; omega) (.int .i64 rx)).st (p := ⟨b9, 1, none⟩) (by have := hsw.out; simp; omega) (.int .i64 ry))
          obtain ⟨e0, e1, e2, e3⟩ := cells2 B9.out
          obtain ⟨i0, i1, i2, i3⟩ := cells2 B10.out
          obtain ⟨c0, c1, -, -⟩ := cells2 BC.out
          obtain ⟨d0, d1, -, -⟩ := cells2 BD.out
          go_upto_region 8 with (fail)
          clear e0 e1 e2 e3 i0 i1 i2 i3 c0 c1 d0 d1 B9 B10 BC BD G
          generalize (w3.setCell ⟨b9, 0, none⟩ (.int .i64 rx)).setCell ⟨b9, 1, none⟩ (.int .i64 ry) = w4 at B9' B10' BC' BD' G' ⊢
          have B9 := B9'
          have B10 := B10'
          have BC := BC'
          have BD := BD'
          have G := G'
          clear B9' B10' BC' BD' G'

          obtain ⟨e0, e1, e2, e3⟩ := cells2 B9.out
          obtain ⟨i0, i1, i2, i3⟩ := cells2 B10.out
          obtain ⟨c0, c1, -, -⟩ := cells2 BC.out
          obtain ⟨d0, d1, -, -⟩ := cells2 BD.out
          go_wp2_with fail
          refine (HLdb.out _).mono ?_
          rintro _ w5 ⟨rfl, hg⟩
          have B9' := Lib.hid (hg.block B9.out)
          have B10' := Lib.hid (hg.block B10.out)
          have BC' := Lib.hid (hg.block BC.out)
          have BD' := Lib.hid (hg.block BD.out)
          have G' := Lib.hid (G.out.trans hg)
          clear hg B9 B10 BC BD G e0 e1 e2 e3 i0 i1 i2 i3 c0 c1 d0 d1
          have B9 := B9'
          have B10 := B10'
          have BC := BC'
          have BD := BD'
          have G := G'
          clear B9' B10' BC' BD' G'

          cases l2
          · simp only [if_false, Bool.false_eq_true] at HV
            obtain ⟨e0, e1, e2, e3⟩ := cells2 B9.out
            obtain ⟨i0, i1, i2, i3⟩ := cells2 B10.out
            obtain ⟨c0, c1, -, -⟩ := cells2 BC.out
            obtain ⟨d0, d1, -, -⟩ := cells2 BD.out
            have HLT := Lib.hid (HL.out (qx, qy) (rx, ry))
            by_cases hq : rx = qx ∧ ry = qy
            · rw [if_pos (Prod.ext hq.1 hq.2)] at HV
              obtain ⟨hq1, hq2⟩ := hq
              subst hq1
              subst hq2
              go_wp2_with fail
              go_ret
              exact ⟨by rw [HV.out]; rfl, G.out⟩
            · rw [if_neg (fun h => hq ⟨congrArg Prod.fst h, congrArg Prod.snd h⟩)] at HV
              cases ht : le2 (qx, qy) (rx, ry) <;> rw [ht] at HV HLT <;> simp only [if_true, if_false, Bool.false_eq_true] at HV
              all_goals
                clear ht
                have hq' : ¬ rx = qx ∨ (rx = qx ∧ ¬ ry = qy) := by omega
                clear hq
                rcases hq' with hq | ⟨hq, hq2⟩
                rotate_left
                · subst hq
                  go_wp2_with fail
                  refine (HLT.out _).mono ?_
                  rintro _ w7 ⟨rfl, hg⟩
                  have G' := Lib.hid (G.out.trans hg)
                  clear hg
                  go_wp2
                  go_ret
                  exact ⟨by rw [HV.out]; rfl, G'.out⟩
                · go_wp2_with fail
                  refine (HLT.out _).mono ?_
                  rintro _ w7 ⟨rfl, hg⟩
                  have G' := Lib.hid (G.out.trans hg)
                  clear hg
                  go_wp2
                  go_ret
                  exact ⟨by rw [HV.out]; rfl, G'.out⟩

          · simp only [if_true] at HV
            have B10' := Lib.hid (set2 (x := .int .i64 sx) (y := .int .i64 sy) B10.out)
            have B9' := Lib.hid ((set2o (b := b10) (x := .int .i64 sx) (y := .int .i64 sy) kne).trans B9.out)
            have BC' := Lib.hid ((set2o (b := b10) (x := .int .i64 sx) (y := .int .i64 sy) (by omega)).trans BC.out)
            have BD' := Lib.hid ((set2o (b := b10) (x := .int .i64 sx) (y := .int .i64 sy) (by omega)).trans BD.out)
            have G' := Lib.hid ((G.out.st (p := ⟨b10, 0, none⟩) (by have := hsw.out; simp; omega) (.int .i64 sx)).st (p := ⟨b10, 1, none⟩) (by have := hsw.out; simp; omega) (.int .i64 sy))
            obtain ⟨e0, e1, e2, e3⟩ := cells2 B9.out
            obtain ⟨i0, i1, i2, i3⟩ := cells2 B10.out
            obtain ⟨c0, c1, -, -⟩ := cells2 BC.out
            obtain ⟨d0, d1, -, -⟩ := cells2 BD.out
            go_upto_region 10 with (fail)
            clear e0 e1 e2 e3 i0 i1 i2 i3 c0 c1 d0 d1 B9 B10 BC BD G
            generalize (w5.setCell ⟨b10, 0, none⟩ (.int .i64 sx)).setCell ⟨b10, 1, none⟩ (.int .i64 sy) = w6 at B9' B10' BC' BD' G' ⊢
            have B9 := B9'
            have B10 := B10'
            have BC := BC'
            have BD := BD'
            have G := G'
            clear B9' B10' BC' BD' G'

            obtain ⟨e0, e1, e2, e3⟩ := cells2 B9.out
            obtain ⟨i0, i1, i2, i3⟩ := cells2 B10.out
            obtain ⟨c0, c1, -, -⟩ := cells2 BC.out
            obtain ⟨d0, d1, -, -⟩ := cells2 BD.out
            have HLT := Lib.hid (HL.out (sx, sy) (rx, ry))
            by_cases hq : rx = sx ∧ ry = sy
            · rw [if_pos (Prod.ext hq.1 hq.2)] at HV
              obtain ⟨hq1, hq2⟩ := hq
              subst hq1
              subst hq2
              go_wp2_with fail
              go_ret
              exact ⟨by rw [HV.out]; rfl, G.out⟩
            · rw [if_neg (fun h => hq ⟨congrArg Prod.fst h, congrArg Prod.snd h⟩)] at HV
              cases ht : le2 (sx, sy) (rx, ry) <;> rw [ht] at HV HLT <;> simp only [if_true, if_false, Bool.false_eq_true] at HV
              all_goals
                clear ht
                have hq' : ¬ rx = sx ∨ (rx = sx ∧ ¬ ry = sy) := by omega
                clear hq
                rcases hq' with hq | ⟨hq, hq2⟩
                rotate_left
                · subst hq
                  go_wp2_with fail
                  refine (HLT.out _).mono ?_
                  rintro _ w7 ⟨rfl, hg⟩
                  have G' := Lib.hid (G.out.trans hg)
                  clear hg
                  go_wp2
                  go_ret
                  exact ⟨by rw [HV.out]; rfl, G'.out⟩
                · go_wp2_with fail
                  refine (HLT.out _).mono ?_
                  rintro _ w7 ⟨rfl, hg⟩
                  have G' := Lib.hid (G.out.trans hg)
                  clear hg
                  go_wp2
                  go_ret
                  exact ⟨by rw [HV.out]; rfl, G'.out⟩


end Go.Proofs.Ytlgplhanhnjeiaa
