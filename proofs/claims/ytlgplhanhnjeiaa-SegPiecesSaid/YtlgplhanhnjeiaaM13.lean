/-
  Layer 2: the law SegPieces.
-/
import Derived.Test.YtlgplhanhnjeiaaM12
import Derived.Test.YtlgplhanhnjeiaaS13
import Derived.Test.YtlgplhanhnjeiaaTQ
import Derived.Test.YtlgplhanhnjeiaaRC
import Derived.RegionTactic
import Derived.BigRegion
namespace Go.Proofs.Ytlgplhanhnjeiaa
open Go.RowKit Go.Tab Go.Sort

theorem box2h {w w1 : World} {x1 y1 x2 y2 : Value} {T1 T2 : TypeId} (h : Grows ((w.alloc (.cells #[x1, y1] T1)).alloc (.cells #[x2, y2] T2)) w1) :
    w1.heap[w.heap.size]? = some (.cells #[x1, y1] T1 (0, 0)) ∧ w1.heap[w.heap.size + 1]? = some (.cells #[x2, y2] T2 (0, 0)) := by
  constructor
  · refine Grows.block h ?_
    rw [show (World.alloc _ _).heap[_]? = _ from Below.heap_alloc _ _ _ (by simp only [World.size_alloc]; omega)]
    exact heap_new _ _ _ rfl
  · exact Grows.block h (heap_new _ _ _ (by simp only [World.size_alloc]))
theorem getD_mem {α : Type} {l : List α} {j : Nat} {d : α} (h : j < l.length) : l.getD j d ∈ l := by
  rw [List.getD_eq_getElem?_getD, List.getElem?_eq_getElem h]; exact List.getElem_mem h
theorem flat_allF (a b : Pt) (L : List Pt) : flat (allF a b L) = [.int .i64 a.1, .int .i64 a.2] ++ flat L ++ [.int .i64 b.1, .int .i64 b.2] := by
  simp [flat, allF]

set_option maxRecDepth 100000 in
set_option maxHeartbeats 8000000 in
theorem law_pieces (a b : Pt) (xs ys : List Int) (al am : Option Addr) (kx pl ky pm lx ly : Nat) (w : World)
    (hx0 : lx = min kx 20) (hy0 : ly = min ky 20) (hkx : kx ≤ pl) (hky : ky ≤ pm) (hcx : pl ≤ 9223372036854775807) (hcy : pm ≤ 9223372036854775807)
    (Hx : Hid (xs.length = lx)) (Hy : Hid (ys.length = ly)) (IX : Hid (IntsAt w (.slice al lx pl) xs)) (IY : Hid (IntsAt w (.slice am ly pm) ys)) :
    Calls Try.prog 6 #[pp a, pp b, .slice al kx pl, .slice am ky pm] w (Ret (.bool true) w) := by
  obtain ⟨L, hL, hLn⟩ := cuts_list a b xs ys
  obtain ⟨i0, hi0, hz0, hz1, hz2⟩ := info_parts infoPt2
  have HCL := Lib.hid (fun w1 (hg : Grows w w1) => Cuts_is hL (.slice al lx pl) (.slice am ly pm) w1 (IX.out.grows hg) (IY.out.grows hg) (by rw [Hx.out]; omega) (by rw [Hy.out]; omega))
  have HLN : Hid (L.length ≤ 40) := Lib.hid (by have := Hx.out; have := Hy.out; omega)
  have HNX := Lib.hid (fun (ma : mayP a = true) (mb : mayP b = true) i hi c hc => no_between ma mb hL (i := i) hi (c := c) hc)
  have HNY := Lib.hid (fun (ma : mayP a = true) (mb : mayP b = true) i hi c hc => no_betweenY ma mb hL (i := i) hi (c := c) hc)
  have HMA := Lib.hid (fun (ma : mayP a = true) (mb : mayP b = true) p hp => all_may ma mb hL (p := p) hp)
  have HNR := Lib.hid (fun p hp => near_all hL (p := p) hp)
  have HAF := Lib.hid (flat_allF a b L)
  have HAL : Hid ((allF a b L).length = L.length + 2) := Lib.hid (allF_len a b L)
  generalize allF a b L = A at HNX HNY HMA HNR HAF HAL
  clear hL hLn
  have m1 : min (kx : Int) 20 = (lx : Int) := by omega
  have m2 : min (ky : Int) 20 = (ly : Int) := by omega
  have b1 : lx ≤ pl := by omega
  have b2 : ly ≤ pm := by omega
  have z1 : lx ≤ 20 := by omega
  have z2 : ly ≤ 20 := by omega
  clear hx0 hy0
  have HFM : Hid (farM a b = _) := Lib.hid rfl
  obtain ⟨ax, ay⟩ := a
  obtain ⟨bx, b_y⟩ := b
  unfold pp at HCL ⊢
  unfold mayP at HNX HNY HMA
  unfold farM at HNR
  simp only at HCL HNX HNY HMA HNR HAF ⊢
  clear HFM
  go_enter Try.func6, Try.ntmps6
  go_wp2_with fail
  have B0 := Lib.hid ((Grows.alloc _ (.cells #[.int .i64 bx, .int .i64 b_y] 23)).block (heap_new w (.cells #[.int .i64 ax, .int .i64 ay] 23) _ rfl))
  have B1 := Lib.hid (heap_new (w.alloc (.cells #[.int .i64 ax, .int .i64 ay] 23)) (.cells #[.int .i64 bx, .int .i64 b_y] 23) (w.heap.size + 1) (by simp))
  have G := Lib.hid (((Grows.refl w).al (.cells #[.int .i64 ax, .int .i64 ay] 23)).al (.cells #[.int .i64 bx, .int .i64 b_y] 23))
  generalize (w.alloc (.cells #[.int .i64 ax, .int .i64 ay] 23)).alloc (.cells #[.int .i64 bx, .int .i64 b_y] 23) = wq at B0 B1 G ⊢
  have HF : Hid (∀ w', Grows wq w' → _) := Lib.hid (fun w' (hg : Grows wq w') => And.intro (cells2 (hg.block B0.out)) (cells2 (hg.block B1.out)))
  clear B0 B1
  go_quiet (fail)
  rename_i nq
  obtain ⟨w1, hw1⟩ : ∃ w1, w1 = wq.drewN nq := ⟨_, rfl⟩
  rw [← hw1]
  have KG : Hid (Grows wq w1) := Lib.hid (by rw [hw1]; exact ⟨rfl, rfl, rfl, Nat.le_refl _, fun _ _ => rfl⟩)
  have G1 := Lib.hid (G.out.trans KG.out)
  clear hw1 m1 m2 hkx hky
  obtain ⟨⟨a0, a1, -, -⟩, ⟨c0, c1, -, -⟩⟩ := HF.out w1 KG.out
  go_wp2_with fail
  refine (of_any _ _ _).mono ?_
  rintro _ w2 ⟨rfl, hg⟩
  have KG := Lib.hid (KG.out.trans hg)
  have G1 := Lib.hid (G1.out.trans hg)
  clear hg a0 a1 c0 c1
  go_wp2_with fail
  refine (may_any _ _ _).mono ?_
  rintro _ w3 ⟨rfl, hg⟩
  have KG := Lib.hid (KG.out.trans hg)
  have G1 := Lib.hid (G1.out.trans hg)
  clear hg
  cases hma : mayB ax ay with
  | false =>
    go_wp2_with fail
    refine (kn_any _).mono ?_
    rintro _ w9 ⟨rfl, hg⟩
    go_wp2
    go_ret
    exact ⟨rfl, G1.out.trans hg⟩
  | true =>
    obtain ⟨⟨a0, a1, -, -⟩, ⟨c0, c1, -, -⟩⟩ := HF.out w3 KG.out
    go_wp2_with fail
    refine (of_any _ _ _).mono ?_
    rintro _ w4 ⟨rfl, hg⟩
    have KG := Lib.hid (KG.out.trans hg)
    have G1 := Lib.hid (G1.out.trans hg)
    clear hg a0 a1 c0 c1
    go_wp2_with fail
    refine (may_any _ _ _).mono ?_
    rintro _ w5 ⟨rfl, hg⟩
    have KG := Lib.hid (KG.out.trans hg)
    have G1 := Lib.hid (G1.out.trans hg)
    clear hg
    cases hmb : mayB bx b_y with
    | false =>
      go_wp2_with fail
      refine (kn_any _).mono ?_
      rintro _ w9 ⟨rfl, hg⟩
      go_wp2
      go_ret
      exact ⟨rfl, G1.out.trans hg⟩
    | true =>
      have HNX := Lib.hid (HNX.out hma hmb)
      have HNY := Lib.hid (HNY.out hma hmb)
      have HMA := Lib.hid (HMA.out hma hmb)
      have HMM := Lib.hid (And.intro hma hmb)
      clear hma hmb
      go_wp2_with fail
      refine wp_region_tab 10 (by kernel_rfl) (by kernel_rfl) ?_
      intro w0 hw0 hg1 hg1'
      simp only [List.take_succ_cons, List.take_zero, List.drop_succ_cons, List.drop_zero]
      refine tab_val (.agg #[.int .i64 ax, .int .i64 ay]) (fun r w1 hr hg hA => by obtain ⟨q0, -⟩ := hA; have q0e : r (.tmp 4) = .pointer (some ⟨w.heap.size, 0, none⟩) := q0; have hc := HF.out w1 ((KG.out.trans hg1).trans hg); exact ⟨rfl, by simp [go_sem, q0e, hc]⟩) ?_
      refine tab_blockN (.cells #[.int .i64 ax, .int .i64 ay] 23 (0, 0)) (fun b => .slice (some ⟨b, 0, none⟩) 1 1) (fun r w1 hr hg hA => by obtain ⟨⟨_, q0⟩, -⟩ := hA; have q0e : r (.tmp 37) = .agg #[.int .i64 ax, .int .i64 ay] := q0; exact ⟨rfl, by simp [go_sem, q0e]⟩) ?_
      refine tab_val (.agg #[.int .i64 ax, .int .i64 ay]) (fun r w1 hr hg hA => by obtain ⟨q0, -⟩ := hA; have q0e : r (.tmp 4) = .pointer (some ⟨w.heap.size, 0, none⟩) := q0; have hc := HF.out w1 ((KG.out.trans hg1).trans hg); exact ⟨rfl, by simp [go_sem, q0e, hc]⟩) ?_
      refine tab_val (.agg #[.int .i64 bx, .int .i64 b_y]) (fun r w1 hr hg hA => by obtain ⟨q0, -⟩ := hA; have q0e : r (.tmp 5) = .pointer (some ⟨w.heap.size + 1, 0, none⟩) := q0; have hc := HF.out w1 ((KG.out.trans hg1).trans hg); exact ⟨rfl, by simp [go_sem, q0e, hc]⟩) ?_
      refine tab_val (.slice al lx pl) (fun r w1 hr hg hA => by obtain ⟨q0, -⟩ := hA; have q0e : r (.tmp 2) = .slice al lx pl := q0; exact ⟨rfl, by simp [go_sem, q0e]⟩) ?_
      refine tab_val (.slice am ly pm) (fun r w1 hr hg hA => by obtain ⟨q0, -⟩ := hA; have q0e : r (.tmp 3) = .slice am ly pm := q0; exact ⟨rfl, by simp [go_sem, q0e]⟩) ?_
      refine tab_callQ (fun v w => PtsAt w v L) (fun v w w' h hg => h.grows hg) (fun r w1 hr hg hA => by obtain ⟨⟨_, q0⟩, ⟨_, q1⟩, ⟨_, q2⟩, ⟨_, q3⟩, -⟩ := hA; have q0e : r (.tmp 39) = .agg #[.int .i64 ax, .int .i64 ay] := q0; have q1e : r (.tmp 40) = .agg #[.int .i64 bx, .int .i64 b_y] := q1; have q2e : r (.tmp 41) = .slice al lx pl := q2; have q3e : r (.tmp 42) = .slice am ly pm := q3; exact ⟨rfl, _, by simp [go_sem, hr.func, q0e, q1e, q2e, q3e], HCL.out w1 ((G1.out.trans hg1).trans hg)⟩) ?_
      refine tab_appendF (.tmp 38) (.tmp 43) 40 23 i0 (.agg #[.int .i64 0, .int .i64 0]) 2 16 1 L.length #[.int .i64 ax, .int .i64 ay] (flat L) rfl Try.underlying40 hi0 hz0 hz1 hz2 rfl (by decide) rfl (by intro u hu; simp at hu; rcases hu with rfl | rfl <;> rfl) (by have := HLN.out; unfold maxLen; omega) (by have := HLN.out; omega) (fun r w1 hr hg hA => by obtain ⟨⟨_, b0, q0, hb0, k0⟩, ⟨_, q1⟩, -⟩ := hA; exact ⟨rfl, ⟨b0, q0, hb0, k0⟩, q1.row⟩) ?_
      refine tab_val (.agg #[.int .i64 bx, .int .i64 b_y]) (fun r w1 hr hg hA => by obtain ⟨q0, -⟩ := hA; have q0e : r (.tmp 5) = .pointer (some ⟨w.heap.size + 1, 0, none⟩) := q0; have hc := HF.out w1 ((KG.out.trans hg1).trans hg); exact ⟨rfl, by simp [go_sem, q0e, hc]⟩) ?_
      refine tab_block (.cells #[.int .i64 bx, .int .i64 b_y] 23 (0, 0)) (fun b => .slice (some ⟨b, 0, none⟩) 1 1) (fun r w1 hr hg hA => by obtain ⟨⟨_, q0⟩, -⟩ := hA; have q0e : r (.tmp 45) = .agg #[.int .i64 bx, .int .i64 b_y] := q0; exact ⟨rfl, by simp [go_sem, q0e]⟩) ?_
      refine tab_end ?_
      simp only [List.reverse_cons, List.reverse_nil, List.nil_append, List.cons_append, Out, BlockP, forall_eq, forall_const, Act.put, List.setIfInBounds_toArray, List.set_cons_succ, List.set_cons_zero]

      rintro wc hgA v38 - v43 - v44 hv44 u46 ⟨b46, rfl, hb46⟩
      have KW := Lib.hid (KG.out.trans hg1)
      have GW := Lib.hid (G1.out.trans hg1)
      have HO := Lib.hid hv44
      have HB6 := Lib.hid hb46
      have HW0 : Hid (Grows w0 wc) := Lib.hid hgA
      clear hg1 hgA hg1' hw0 HCL hv44 hb46
      go_wp2_with (at_builtin; go_loud (refine append_row2 rfl _ _ 40 rfl w0.heap.size 23 i0 _ 2 16 Try.underlying40 hi0 hz0 hz1 hz2 rfl (by decide) v44 (1 + L.length) _ rfl HO.out 1 [.int .i64 bx, .int .i64 b_y] _ rfl (row_two HB6.out rfl rfl) (by have := HLN.out; unfold maxLen; omega) (by have := HLN.out; omega) HW0.out.size ?_; intro o2 wd hown hgr; have PA : Hid (PtsAt wd o2 A) := Lib.hid (own_pts (l := A) (by rw [HAF.out]; exact hown) (by rw [HAL.out]; omega) (by rw [HAL.out]; have := HLN.out; omega)); have HGD := Lib.hid (grown_all HO.out HW0.out hgr); clear hown hgr HO HB6 HW0))
      have KD := Lib.hid (KW.out.trans HGD.out)
      have GD := Lib.hid (GW.out.trans HGD.out)
      clear HGD KW GW KG G1 G
      obtain ⟨oa, ca, rfl, hca, -⟩ := PA.out.shape
      obtain ⟨N, hN⟩ : ∃ N, N = A.length := ⟨_, rfl⟩
      rw [← hN] at hca PA HAL ⊢
      have HN := Lib.hid hN
      have hN2 : 2 ≤ N ∧ N ≤ 42 := by have := HAL.out; have := HLN.out; omega
      obtain ⟨hN2, hN42⟩ := hN2
      clear hN HAL HAF HLN
      go_wp2
      go_loopw [10] (fun i wr => ∃ k : Nat, i = .int .i64 (k : Int) ∧ 1 ≤ k ∧ k ≤ N ∧ Hid (Grows wd wr)) (fun i _ => N - (intOf i).toNat)
      case atStart => exact ⟨1, rfl, Nat.le_refl _, by omega, Lib.hid (Grows.refl _)⟩
      case round =>
        obtain ⟨k, rfl, hk1, hkN, GY⟩ := hrel
        by_cases hlt : k < N
        · obtain ⟨j, hj⟩ : ∃ j, j = k - 1 := ⟨_, rfl⟩
          have e1 : (k : Int) - 1 = (j : Int) := by omega
          have hjk : j + 1 = k := by omega
          have hltz : (k : Int) < (N : Int) := by omega
          have hj0 : (0 : Int) ≤ (j : Int) := by omega
          have hjl : j < A.length := by rw [← HN.out]; omega
          have hkl : k < A.length := by rw [← HN.out]; exact hlt
          obtain ⟨ba, fa, rfl, hba, -, -⟩ := PA.out.at_ (i := j) hjl
          obtain ⟨u1, u2⟩ := (PA.out.grows GY.out).at_cell (i := j) hjl
          obtain ⟨v1, v2⟩ := (PA.out.grows GY.out).at_cell (i := k) hkl
          have HXQ := Lib.hid (HNX.out j (by rw [hjk]; exact hkl))
          have HYQ := Lib.hid (HNY.out j (by rw [hjk]; exact hkl))
          rw [hjk] at HXQ HYQ
          have HMP := Lib.hid (HMA.out _ (getD_mem (d := (0, 0)) hjl))
          have HNP := Lib.hid (HNR.out _ (getD_mem (d := (0, 0)) hjl))
          clear hjl hkl hj
          generalize A.getD j (0, 0) = x at u1 u2 HXQ HYQ HMP HNP
          generalize A.getD k (0, 0) = y at v1 v2 HXQ HYQ
          obtain ⟨px, py⟩ := x
          obtain ⟨qx, qy⟩ := y
          simp only at u1 u2 v1 v2 HXQ HYQ HMP
          have HCR : Hid (∀ w, Calls Try.prog 20 #[.agg #[.int .i64 ax, .int .i64 ay], .agg #[.int .i64 bx, .int .i64 b_y], .agg #[.int .i64 px, .int .i64 py]] w (Ret (.int .i64 (cr (ax, ay) (bx, b_y) (px, py))) w)) := Lib.hid (fun w => rcross_any' ax ay bx b_y px py w HMM.out.1 HMM.out.2 HMP.out)
          generalize cr (ax, ay) (bx, b_y) (px, py) = cr0 at HNP HCR
          have hbw : ba < wr.heap.size := Nat.lt_of_lt_of_le hba GY.out.size
          have A1 : ∀ o, (wr.alloc o).cell? ⟨ba, fa + j * 2, none⟩ = some (.int .i64 px) := fun o => by rw [World.cell?_alloc_lt _ _ _ hbw]; exact u1
          have A2 : ∀ o, (wr.alloc o).cell? ⟨ba, fa + j * 2 + 1, none⟩ = some (.int .i64 py) := fun o => by rw [World.cell?_alloc_lt _ _ _ hbw]; exact u2
          have A3 : ∀ o, (wr.alloc o).cell? ⟨ba, fa + k * 2, none⟩ = some (.int .i64 qx) := fun o => by rw [World.cell?_alloc_lt _ _ _ hbw]; exact v1
          have A4 : ∀ o, (wr.alloc o).cell? ⟨ba, fa + k * 2 + 1, none⟩ = some (.int .i64 qy) := fun o => by rw [World.cell?_alloc_lt _ _ _ hbw]; exact v2
          have A5 : ∀ o o', ((wr.alloc o).alloc o').cell? ⟨ba, fa + j * 2, none⟩ = some (.int .i64 px) := fun o o' => by rw [World.cell?_alloc_lt _ _ _ (by simp only [World.size_alloc]; omega)]; exact A1 o
          have A6 : ∀ o o', ((wr.alloc o).alloc o').cell? ⟨ba, fa + j * 2 + 1, none⟩ = some (.int .i64 py) := fun o o' => by rw [World.cell?_alloc_lt _ _ _ (by simp only [World.size_alloc]; omega)]; exact A2 o
          have A7 : ∀ o o', ((wr.alloc o).alloc o').cell? ⟨ba, fa + k * 2, none⟩ = some (.int .i64 qx) := fun o o' => by rw [World.cell?_alloc_lt _ _ _ (by simp only [World.size_alloc]; omega)]; exact A3 o
          have A8 : ∀ o o', ((wr.alloc o).alloc o').cell? ⟨ba, fa + k * 2 + 1, none⟩ = some (.int .i64 qy) := fun o o' => by rw [World.cell?_alloc_lt _ _ _ (by simp only [World.size_alloc]; omega)]; exact A4 o
          have hb1 : ¬ ba = wr.heap.size := by omega
          have hb2 : ¬ ba = wr.heap.size + 1 := by omega
          go_upto_region 8 with (fail)
          go_cut [11, 12] from 54 to 62 (fun u v wx => ∃ b5 b6 : Nat, u = .pointer (some ⟨b5, 0, none⟩) ∧ v = .pointer (some ⟨b6, 0, none⟩) ∧ Hid (wx.heap[b5]? = some (.cells #[.int .i64 px, .int .i64 py] 23 (0, 0))) ∧ Hid (wx.heap[b6]? = some (.cells #[.int .i64 qx, .int .i64 qy] 23 (0, 0))) ∧ Hid (Grows wr wx))
          case first =>
            go_region
            · go_wp2_with fail
              go_meet
              have kk := box2h (w := wr) (x1 := .int .i64 px) (y1 := .int .i64 py) (x2 := .int .i64 qx) (y2 := .int .i64 qy) (T1 := 23) (T2 := 23) (Grows.refl _).dr
              exact ⟨_, _, rfl, rfl, Lib.hid kk.1, Lib.hid kk.2, Lib.hid ((((Grows.refl _).al _).al _).dr)⟩
            · go_wp2_with fail
              go_meet
              have kk := box2h (w := wr) (x1 := .int .i64 qx) (y1 := .int .i64 qy) (x2 := .int .i64 px) (y2 := .int .i64 py) (T1 := 23) (T2 := 23) (Grows.refl _).dr
              exact ⟨_, _, rfl, rfl, Lib.hid kk.2, Lib.hid kk.1, Lib.hid ((((Grows.refl _).al _).al _).dr)⟩
          case rest =>
            obtain ⟨b5, b6, rfl, rfl, H5, H6, GV⟩ := hcut
            clear A1 A2 A3 A4 A5 A6 A7 A8 u1 u2 v1 v2 hb1 hb2 hbw e1 hj0
            have GY := Lib.hid (GY.out.trans GV.out)
            clear GV
            go_wp2
            go_loopw [13] (fun i wr => ∃ j : Nat, i = .int .i64 (j : Int) ∧ j ≤ lx ∧ Hid (Grows wd wr) ∧ Hid (wr.heap[b5]? = some (.cells #[.int .i64 px, .int .i64 py] 23 (0, 0))) ∧ Hid (wr.heap[b6]? = some (.cells #[.int .i64 qx, .int .i64 qy] 23 (0, 0)))) (fun i _ => lx - (intOf i).toNat)
            case atStart => exact ⟨0, rfl, Nat.zero_le _, GY, H5, H6⟩
            case round =>
              clear GY H5 H6
              obtain ⟨j, rfl, hj, GY, H5, H6⟩ := hrel
              obtain ⟨p0, p1, -, -⟩ := cells2 H5.out
              obtain ⟨q0, q1, -, -⟩ := cells2 H6.out
              by_cases hjk : j < lx
              · have hjz : (j : Int) < (lx : Int) := by omega
                obtain ⟨bc, fc, rfl, hbc, u1⟩ := (IX.out.grows (GD.out.trans GY.out)).at_ (i := j) (by rw [Hx.out]; exact hjk)
                have hcm := Lib.hid (HXQ.out (xs.getD j 0) (getD_mem (by rw [Hx.out]; exact hjk)))
                generalize xs.getD j 0 = c at u1 hcm
                go_wp2_with fail
                by_cases h1 : px < c <;> by_cases h2 : qx < c
                · have k1 : decide (px < c) = true := decide_eq_true h1
                  have k2 : decide (c < qx) = false := decide_eq_false (by omega)
                  have k3 : decide (qx < c) = true := decide_eq_true h2
                  have k4 : decide (c < px) = false := decide_eq_false (by omega)
                  clear h1 h2
                  go_quiet (fail)
                  go_wp2
                  exact ⟨⟨j + 1, by simp, by omega, Lib.hid (GY.out.trans ⟨rfl, rfl, rfl, Nat.le_refl _, fun _ _ => rfl⟩), Lib.hid H5.out, Lib.hid H6.out⟩, by simp only [intOf]; omega⟩
                · have k1 : decide (px < c) = true := decide_eq_true h1
                  have k2 : decide (c < qx) = false := decide_eq_false (fun h => hcm.out (.inl ⟨h1, h⟩))
                  have k3 : decide (qx < c) = false := decide_eq_false h2
                  have k4 : decide (c < px) = false := decide_eq_false (by omega)
                  clear h1 h2
                  go_quiet (fail)
                  go_wp2
                  exact ⟨⟨j + 1, by simp, by omega, Lib.hid (GY.out.trans ⟨rfl, rfl, rfl, Nat.le_refl _, fun _ _ => rfl⟩), Lib.hid H5.out, Lib.hid H6.out⟩, by simp only [intOf]; omega⟩
                · have k1 : decide (px < c) = false := decide_eq_false h1
                  have k3 : decide (qx < c) = true := decide_eq_true h2
                  have k4 : decide (c < px) = false := decide_eq_false (fun h => hcm.out (.inr ⟨h2, h⟩))
                  clear h1 h2
                  go_quiet (fail)
                  go_wp2
                  exact ⟨⟨j + 1, by simp, by omega, Lib.hid (GY.out.trans ⟨rfl, rfl, rfl, Nat.le_refl _, fun _ _ => rfl⟩), Lib.hid H5.out, Lib.hid H6.out⟩, by simp only [intOf]; omega⟩
                · have k1 : decide (px < c) = false := decide_eq_false h1
                  have k3 : decide (qx < c) = false := decide_eq_false h2
                  clear h1 h2
                  go_quiet (fail)
                  go_wp2
                  exact ⟨⟨j + 1, by simp, by omega, Lib.hid (GY.out.trans ⟨rfl, rfl, rfl, Nat.le_refl _, fun _ _ => rfl⟩), Lib.hid H5.out, Lib.hid H6.out⟩, by simp only [intOf]; omega⟩
              · obtain rfl : j = lx := by omega
                clear hj hjk p0 p1 q0 q1
                go_wp2
                go_loopw [14] (fun i wr => ∃ j : Nat, i = .int .i64 (j : Int) ∧ j ≤ ly ∧ Hid (Grows wd wr) ∧ Hid (wr.heap[b5]? = some (.cells #[.int .i64 px, .int .i64 py] 23 (0, 0))) ∧ Hid (wr.heap[b6]? = some (.cells #[.int .i64 qx, .int .i64 qy] 23 (0, 0)))) (fun i _ => ly - (intOf i).toNat)
                case atStart => exact ⟨0, rfl, Nat.zero_le _, GY, H5, H6⟩
                case round =>
                  clear GY H5 H6
                  obtain ⟨j, rfl, hj, GY, H5, H6⟩ := hrel
                  obtain ⟨p0, p1, -, -⟩ := cells2 H5.out
                  obtain ⟨q0, q1, -, -⟩ := cells2 H6.out
                  by_cases hjk : j < ly
                  · have hjz : (j : Int) < (ly : Int) := by omega
                    obtain ⟨bc, fc, rfl, hbc, u1⟩ := (IY.out.grows (GD.out.trans GY.out)).at_ (i := j) (by rw [Hy.out]; exact hjk)
                    have hcm := Lib.hid (HYQ.out (ys.getD j 0) (getD_mem (by rw [Hy.out]; exact hjk)))
                    generalize ys.getD j 0 = c at u1 hcm
                    go_wp2_with fail
                    by_cases h1 : py < c <;> by_cases h2 : qy < c
                    · have k1 : decide (py < c) = true := decide_eq_true h1
                      have k2 : decide (c < qy) = false := decide_eq_false (by omega)
                      have k3 : decide (qy < c) = true := decide_eq_true h2
                      have k4 : decide (c < py) = false := decide_eq_false (by omega)
                      clear h1 h2
                      go_quiet (fail)
                      go_wp2
                      exact ⟨⟨j + 1, by simp, by omega, Lib.hid (GY.out.trans ⟨rfl, rfl, rfl, Nat.le_refl _, fun _ _ => rfl⟩), Lib.hid H5.out, Lib.hid H6.out⟩, by simp only [intOf]; omega⟩
                    · have k1 : decide (py < c) = true := decide_eq_true h1
                      have k2 : decide (c < qy) = false := decide_eq_false (fun h => hcm.out (.inl ⟨h1, h⟩))
                      have k3 : decide (qy < c) = false := decide_eq_false h2
                      have k4 : decide (c < py) = false := decide_eq_false (by omega)
                      clear h1 h2
                      go_quiet (fail)
                      go_wp2
                      exact ⟨⟨j + 1, by simp, by omega, Lib.hid (GY.out.trans ⟨rfl, rfl, rfl, Nat.le_refl _, fun _ _ => rfl⟩), Lib.hid H5.out, Lib.hid H6.out⟩, by simp only [intOf]; omega⟩
                    · have k1 : decide (py < c) = false := decide_eq_false h1
                      have k3 : decide (qy < c) = true := decide_eq_true h2
                      have k4 : decide (c < py) = false := decide_eq_false (fun h => hcm.out (.inr ⟨h2, h⟩))
                      clear h1 h2
                      go_quiet (fail)
                      go_wp2
                      exact ⟨⟨j + 1, by simp, by omega, Lib.hid (GY.out.trans ⟨rfl, rfl, rfl, Nat.le_refl _, fun _ _ => rfl⟩), Lib.hid H5.out, Lib.hid H6.out⟩, by simp only [intOf]; omega⟩
                    · have k1 : decide (py < c) = false := decide_eq_false h1
                      have k3 : decide (qy < c) = false := decide_eq_false h2
                      clear h1 h2
                      go_quiet (fail)
                      go_wp2
                      exact ⟨⟨j + 1, by simp, by omega, Lib.hid (GY.out.trans ⟨rfl, rfl, rfl, Nat.le_refl _, fun _ _ => rfl⟩), Lib.hid H5.out, Lib.hid H6.out⟩, by simp only [intOf]; omega⟩
                  · obtain rfl : j = ly := by omega
                    clear hj hjk
                    go_wp2_with fail
                    refine (of_any _ _ _).mono ?_
                    rintro _ w6 ⟨rfl, hg6⟩
                    go_wp2_with fail
                    refine (may_any _ _ _).mono ?_
                    rintro _ w7 ⟨rfl, hg7⟩
                    rw [HMP.out]
                    have H5 := Lib.hid ((hg6.trans hg7).block H5.out)
                    have GY := Lib.hid (GY.out.trans (hg6.trans hg7))
                    clear hg6 hg7 p0 p1 q0 q1
                    have HF2 : Hid (∀ w', Grows w7 w' → _) := Lib.hid (fun w' (hg : Grows w7 w') => And.intro (HF.out w' (KD.out.trans (GY.out.trans hg))) (cells2 (hg.block H5.out)))
                    go_wp2_with fail
                    refine wp_region_tab 7 (by kernel_rfl) (by kernel_rfl) ?_
                    intro w0 hw0 hg1 hg1'
                    simp only [List.take_succ_cons, List.take_zero, List.drop_succ_cons, List.drop_zero]
                    refine tab_val (.agg #[.int .i64 ax, .int .i64 ay]) (fun r w1 hr hg hA => by obtain ⟨q0, -⟩ := hA; have q0e : r (.tmp 4) = .pointer (some ⟨w.heap.size, 0, none⟩) := q0; have hc := HF2.out w1 (hg1.trans hg); exact ⟨rfl, by simp [go_sem, q0e, hc]⟩) ?_
                    refine tab_call (v := .agg #[.int .i64 ax, .int .i64 ay]) (fun w1 hg => of_any ax ay w1) (fun r w1 hr hg hA => by obtain ⟨⟨_, q0⟩, -⟩ := hA; have q0e : r (.tmp 147) = .agg #[.int .i64 ax, .int .i64 ay] := q0; exact ⟨rfl, by simp [go_sem, hr.func, q0e]⟩) ?_
                    refine tab_val (.agg #[.int .i64 bx, .int .i64 b_y]) (fun r w1 hr hg hA => by obtain ⟨q0, -⟩ := hA; have q0e : r (.tmp 5) = .pointer (some ⟨w.heap.size + 1, 0, none⟩) := q0; have hc := HF2.out w1 (hg1.trans hg); exact ⟨rfl, by simp [go_sem, q0e, hc]⟩) ?_
                    refine tab_call (v := .agg #[.int .i64 bx, .int .i64 b_y]) (fun w1 hg => of_any bx b_y w1) (fun r w1 hr hg hA => by obtain ⟨⟨_, q0⟩, -⟩ := hA; have q0e : r (.tmp 149) = .agg #[.int .i64 bx, .int .i64 b_y] := q0; exact ⟨rfl, by simp [go_sem, hr.func, q0e]⟩) ?_
                    refine tab_val (.agg #[.int .i64 px, .int .i64 py]) (fun r w1 hr hg hA => by obtain ⟨q0, -⟩ := hA; have q0e : r (.tmp 11) = .pointer (some ⟨b5, 0, none⟩) := q0; have hc := HF2.out w1 (hg1.trans hg); exact ⟨rfl, by simp [go_sem, q0e, hc]⟩) ?_
                    refine tab_call (v := .agg #[.int .i64 px, .int .i64 py]) (fun w1 hg => of_any px py w1) (fun r w1 hr hg hA => by obtain ⟨⟨_, q0⟩, -⟩ := hA; have q0e : r (.tmp 151) = .agg #[.int .i64 px, .int .i64 py] := q0; exact ⟨rfl, by simp [go_sem, hr.func, q0e]⟩) ?_
                    refine tab_call (v := .int .i64 cr0) (fun w1 hg => HCR.out w1) (fun r w1 hr hg hA => by obtain ⟨⟨_, q0⟩, ⟨_, q1⟩, ⟨_, q2⟩, -⟩ := hA; have q0e : r (.tmp 148) = .agg #[.int .i64 ax, .int .i64 ay] := q0; have q1e : r (.tmp 150) = .agg #[.int .i64 bx, .int .i64 b_y] := q1; have q2e : r (.tmp 152) = .agg #[.int .i64 px, .int .i64 py] := q2; exact ⟨rfl, by simp [go_sem, hr.func, q0e, q1e, q2e]⟩) ?_
                    refine tab_end ?_
                    simp only [List.reverse_cons, List.reverse_nil, List.nil_append, List.cons_append, Out, BlockP, forall_eq, forall_const, Act.put, List.setIfInBounds_toArray, List.set_cons_succ, List.set_cons_zero]

                    intro wc2 hgA2
                    have GY := Lib.hid (GY.out.trans (hg1.trans hgA2))
                    obtain ⟨⟨⟨a0, a1, -, -⟩, ⟨c0, c1, -, -⟩⟩, -⟩ := HF2.out wc2 (hg1.trans hgA2)
                    clear hg1 hgA2 hg1' hw0 HF2
                    obtain ⟨s1, s2, s3, s4⟩ := mayB_iff.1 HMM.out.1
                    obtain ⟨s5, s6, s7, s8⟩ := mayB_iff.1 HMM.out.2
                    have hnr := HNP.out
                    have hcb : -33554432 ≤ cr0 ∧ cr0 ≤ 33554432 := by omega
                    obtain ⟨hcb1, hcb2⟩ := hcb
                    go_wp2
                    exact ⟨⟨k + 1, by simp, by omega, by omega, GY⟩, by simp only [intOf]; omega⟩
        · obtain rfl : k = N := by omega
          go_wp2_with fail
          refine (kn_any _).mono ?_
          rintro _ w9 ⟨rfl, hg⟩
          go_wp2
          go_ret
          exact ⟨rfl, (GD.out.trans GY.out).trans hg⟩
end Go.Proofs.Ytlgplhanhnjeiaa
