/-
  Layer 22: the law of meeting: the walk.
-/
import Derived.Test.YtlkihbehiojimaaK9
namespace Go.Proofs.Ytlkihbehiojimaa
open Go.RowKit Go.Tab Go.WideShapes

theorem cut_slice (a : Option Addr) (n c : Nat) (w : World) (hnc : n ≤ c) (hac : a = none → c = 0) : Calls Try.prog 7 #[.slice a n c] w (Ret (.slice a (min n 40) c) w) := by
  cases a with
  | none =>
    have hc0 : c = 0 := hac rfl
    subst hc0
    have hn0 : n = 0 := by omega
    subst hn0
    clear hac hnc
    show Calls Try.prog 7 #[.slice none 0 0] w (Ret (.slice none 0 0) w)
    go_enter Try.func7, Try.ntmps7
    go_wp2
    go_ret
    exact ⟨rfl, Grows.refl w⟩
  | some ad =>
    have hm1 : min n 40 ≤ n := Nat.min_le_left _ _
    have hm : (if (40 : Int) < (n : Int) then (40 : Int) else (n : Int)) = ((min n 40 : Nat) : Int) := by split <;> omega
    generalize min n 40 = m at hm hm1 ⊢
    clear hac
    have hm2 : m ≤ c := by omega
    go_enter Try.func7, Try.ntmps7
    go_wp2
    go_ret
    exact ⟨rfl, Grows.refl w⟩

theorem mayB_swap (x y : Int) : mayB x y = mayB y x := by unfold mayB; rw [Bool.eq_iff_iff]; simp; omega
theorem uncut_of {ax ay cx cy v : Int} (h1 : mayB ax ay = true) (h2 : mayB cx cy = true) (h : cutB ax ay cx cy v = false) : uncutB ax cx v = true := by
  unfold cutB at h
  rw [h1, h2] at h
  unfold uncutB
  have h' : min ax cx < v → max ax cx ≤ v := by simpa using h
  have g : v ≤ min ax cx ∨ max ax cx ≤ v := by
    by_cases hh : min ax cx < v
    · exact .inr (h' hh)
    · exact .inl (by omega)
  simpa using g
theorem meets_two (p q : Int × Int) (b : BoxI) (hb : b.right = true) (hp : mayB p.1 p.2 = true) (hq : mayB q.1 q.2 = true) (t1 : cutB p.1 p.2 q.1 q.2 b.lx = false) (t2 : cutB p.1 p.2 q.1 q.2 b.hx = false) (t3 : cutB p.2 p.1 q.2 q.1 b.ly = false) (t4 : cutB p.2 p.1 q.2 q.1 b.hy = false) :
    meetsF [p, q] b = shownB p.1 p.2 q.1 q.2 b := by
  rw [← meets_shown p.1 p.2 q.1 q.2 b hb hp hq (uncut_of hp hq t1) (uncut_of hp hq t2) (uncut_of (by rw [mayB_swap]; exact hp) (by rw [mayB_swap]; exact hq) t3) (uncut_of (by rw [mayB_swap]; exact hp) (by rw [mayB_swap]; exact hq) t4)]
  have e : anyEdge b [p, q] = edgeM b p q := by simp [anyEdge, gp, List.range_succ]
  unfold meetsF wideB
  rw [e, hb]
  unfold edgeM
  rw [hp, hq]
  simp [Bool.and_assoc]

set_option maxRecDepth 100000 in
set_option maxHeartbeats 8000000 in
theorem meets_law (a : Option Addr) (n0 c : Nat) (L : List (Int × Int)) (b : BoxI) (w : World) (hnc0 : n0 ≤ c) (hac : a = none → c = 0) (hu : PtsAt w (.slice a (min n0 40) c) L) : Calls Try.prog 5 #[.slice a n0 c, bx b] w (Ret (.bool true) w) := by
  have hcut := cut_slice a n0 c (w.alloc (.cells #[.int .i64 b.lx, .int .i64 b.ly, .int .i64 b.hx, .int .i64 b.hy] 26)) hnc0 hac
  have hpt := hu.grows ((Grows.refl w).al (.cells #[.int .i64 b.lx, .int .i64 b.ly, .int .i64 b.hx, .int .i64 b.hy] 26))
  obtain ⟨n, hn⟩ : ∃ n, n = min n0 40 := ⟨_, rfl⟩
  have hL : n ≤ 40 := by rw [hn]; exact Nat.min_le_right _ _
  rw [← hn] at hcut hpt
  obtain ⟨a', c', hv, hnc, _⟩ := hpt.shape
  have hln : n = L.length := by injection hv
  have hcc : c = c' := by injection hv
  rw [← hln] at hnc
  rw [← hcc] at hnc
  clear hac hnc0 hn hv hcc hu
  have HU := Lib.hid hpt
  have HN := Lib.hid hln
  have HCUT := Lib.hid hcut
  have HRB := Lib.hid (boxright_any b)
  obtain ⟨r, hr⟩ : ∃ r, r = b.right := ⟨_, rfl⟩
  rw [← hr] at HRB
  have Hr := Lib.hid hr
  clear hpt hln hcut hr
  have BX : Hid (∀ w', Grows (w.alloc (.cells #[.int .i64 b.lx, .int .i64 b.ly, .int .i64 b.hx, .int .i64 b.hy] 26)) w' →
      w'.cell? ⟨w.heap.size, 0, none⟩ = some (.int .i64 b.lx) ∧ w'.cell? ⟨w.heap.size, 1, none⟩ = some (.int .i64 b.ly) ∧ w'.cell? ⟨w.heap.size, 2, none⟩ = some (.int .i64 b.hx) ∧ w'.cell? ⟨w.heap.size, 3, none⟩ = some (.int .i64 b.hy)) := Lib.hid fun w' hg => cells4 (hg.block (heap_new _ _ _ rfl))
  go_enter Try.func5, Try.ntmps5
  go_wp2_with fail
  refine HCUT.out.mono ?_
  rintro _ w1 ⟨rfl, hg⟩
  have HG1 := Lib.hid hg
  clear hg
  obtain ⟨c0, c1, c2, c3⟩ := BX.out _ HG1.out
  go_wp2_with fail
  refine (HRB.out _).mono ?_
  rintro _ w2 ⟨rfl, hg⟩
  have HG := Lib.hid (HG1.out.trans hg)
  clear hg c0 c1 c2 c3
  cases r with
  | false =>
    go_wp2_with fail
    refine (kn_any _).mono ?_
    rintro _ w3 ⟨rfl, hg⟩
    have HG3 := Lib.hid (((Grows.refl w).al _).trans (HG.out.trans hg))
    clear hg
    go_wp2
    go_ret
    exact ⟨rfl, HG3.out⟩
  | true =>
    go_wp2
    go_loopw [5] (fun i wr => ∃ k : Nat, i = .int .i64 (k : Int) ∧ 1 ≤ k ∧ k ≤ n + 1 ∧ Grows w2 wr) (fun i _ => n + 2 - (intOf i).toNat)
    case atStart => exact ⟨1, rfl, Nat.le_refl _, by omega, Grows.refl _⟩
    case round =>
      obtain ⟨k, rfl, hk1, hkn1, hg⟩ := hrel
      have G := Lib.hid hg
      clear hg
      by_cases hkn : k < n
      · obtain ⟨j, hj⟩ : ∃ j, k = j + 1 := ⟨k - 1, by omega⟩
        subst hj
        have hjn : j < n := by omega
        obtain ⟨ba, oa, rfl, hba, _, _⟩ := HU.out.at_ (i := j) (by rw [← HN.out]; exact hjn)
        have CP := Lib.hid (fun w' (hg : Grows _ w') => (HU.out.grows hg).at_cell (i := j) (by rw [← HN.out]; exact hjn))
        have CQ := Lib.hid (fun w' (hg : Grows _ w') => (HU.out.grows hg).at_cell (i := j + 1) (by rw [← HN.out]; exact hkn))
        generalize L.getD j (0, 0) = p at CP
        generalize L.getD (j + 1) (0, 0) = q at CQ
        obtain ⟨px, py⟩ := p
        obtain ⟨qx, qy⟩ := q
        have e0 : (j : Int) + 1 - 1 = (j : Int) := by omega
        have e1 : IntKind.i64.wrap (j : Int) = (j : Int) := IntWalk.i64_in _ (by omega)
        have e2 : ((j : Int) + 1).toNat = j + 1 := by omega
        have i1 : (0 : Int) ≤ (j : Int) := by omega
        have i2 : (j : Int) < (n : Int) := by omega
        have i3 : (0 : Int) ≤ (j : Int) + 1 := by omega
        have i4 : (j : Int) + 1 < (n : Int) := by omega
        obtain ⟨c01, c02⟩ := CP.out wr (HG.out.trans G.out)
        obtain ⟨c03, c04⟩ := CQ.out wr (HG.out.trans G.out)
        have hbR : ba < wr.heap.size := by have := (HG.out.trans G.out).size; omega
        have d0 : ∀ o, ((wr.alloc o).cell? ⟨ba, oa + j * 2, none⟩ = some (.int .i64 px)) := fun o => by rw [World.cell?_alloc_lt _ _ _ hbR]; exact c01
        have f0 : ∀ o o', (((wr.alloc o).alloc o').cell? ⟨ba, oa + j * 2, none⟩ = some (.int .i64 px)) := fun o o' => by rw [World.cell?_alloc_lt _ _ _ (by simp only [World.size_alloc]; omega)]; exact d0 o
        have d1 : ∀ o, ((wr.alloc o).cell? ⟨ba, oa + j * 2 + 1, none⟩ = some (.int .i64 py)) := fun o => by rw [World.cell?_alloc_lt _ _ _ hbR]; exact c02
        have f1 : ∀ o o', (((wr.alloc o).alloc o').cell? ⟨ba, oa + j * 2 + 1, none⟩ = some (.int .i64 py)) := fun o o' => by rw [World.cell?_alloc_lt _ _ _ (by simp only [World.size_alloc]; omega)]; exact d1 o
        have d2 : ∀ o, ((wr.alloc o).cell? ⟨ba, oa + (j + 1) * 2, none⟩ = some (.int .i64 qx)) := fun o => by rw [World.cell?_alloc_lt _ _ _ hbR]; exact c03
        have f2 : ∀ o o', (((wr.alloc o).alloc o').cell? ⟨ba, oa + (j + 1) * 2, none⟩ = some (.int .i64 qx)) := fun o o' => by rw [World.cell?_alloc_lt _ _ _ (by simp only [World.size_alloc]; omega)]; exact d2 o
        have d3 : ∀ o, ((wr.alloc o).cell? ⟨ba, oa + (j + 1) * 2 + 1, none⟩ = some (.int .i64 qy)) := fun o => by rw [World.cell?_alloc_lt _ _ _ hbR]; exact c04
        have f3 : ∀ o o', (((wr.alloc o).alloc o').cell? ⟨ba, oa + (j + 1) * 2 + 1, none⟩ = some (.int .i64 qy)) := fun o o' => by rw [World.cell?_alloc_lt _ _ _ (by simp only [World.size_alloc]; omega)]; exact d3 o
        clear CP CQ
        go_wp2_with fail
        go_region
        · refine (‹∀ (a : Act) (w : World), Code.wp _ _ _ a w → _›) _ _ ?_
          have kk := box2h (w := wr) (x1 := .int .i64 px) (y1 := .int .i64 py) (x2 := .int .i64 qx) (y2 := .int .i64 qy) (T1 := 24) (T2 := 24) (Grows.refl _).dr
          have gg := (((Grows.refl wr).al (.cells #[.int .i64 px, .int .i64 py] 24)).al (.cells #[.int .i64 qx, .int .i64 qy] 24)).dr
          generalize World.drew _ = wS at kk gg ⊢
          obtain ⟨K6', K7'⟩ := kk
          generalize hs6 : wr.heap.size = b6 at K6' K7' ⊢
          generalize hs7 : b6 + 1 = b7 at K7' ⊢
          have K6 := Lib.hid K6'
          have K7 := Lib.hid K7'
          have GS := Lib.hid (G.out.trans gg)
          clear hs6 hs7 K6' K7' gg d0 d1 d2 d3 f0 f1 f2 f3 c01 c02 c03 c04 e0 e1 e2 i1 i2 i3 i4 hbR
          obtain ⟨s0, s1, _, _⟩ := cells2 K6.out
          obtain ⟨s2, s3, _, _⟩ := cells2 K7.out
          have CS := Lib.hid (fun w' (hg : Grows wS w') => And.intro (cells2 (hg.block K6.out)) (And.intro (cells2 (hg.block K7.out)) (BX.out w' ((HG.out.trans GS.out).trans hg))))
          obtain ⟨c0, c1, c2, c3⟩ := BX.out wS (HG.out.trans GS.out)
          have H1 := Lib.hid (fun w => atx_any px py qx qy b.lx w)
          have H2 := Lib.hid (fun w => atx_any px py qx qy b.hx w)
          have H3 := Lib.hid (fun w => aty_any px py qx qy b.ly w)
          have H4 := Lib.hid (fun w => aty_any px py qx qy b.hy w)
          have HV := Lib.hid (meets_two (px, py) (qx, qy) b Hr.out.symm)
          have HME := Lib.hid (fun u w (h : PtsAt w u [(px, py), (qx, qy)]) => meets_any u [(px, py), (qx, qy)] b w h (by simp))
          have HSH := Lib.hid (fun w => shown_any px py qx qy b w)
          have HMP := Lib.hid (fun w => may_any px py w)
          have HMQ := Lib.hid (fun w => may_any qx qy w)
          generalize meetsF [(px, py), (qx, qy)] b = tm at HME HV
          generalize shownB px py qx qy b = t at HSH HV
          generalize atxP px py qx qy b.lx = v1 at H1
          generalize atxP px py qx qy b.hx = v2 at H2
          generalize atxP py px qy qx b.ly = v3 at H3
          generalize atxP py px qy qx b.hy = v4 at H4
          generalize cutB px py qx qy b.lx = t1 at H1 HV
          generalize cutB px py qx qy b.hx = t2 at H2 HV
          generalize cutB py px qy qx b.ly = t3 at H3 HV
          generalize cutB py px qy qx b.hy = t4 at H4 HV
          generalize mayB px py = m1 at HMP HV
          generalize mayB qx qy = m2 at HMQ HV
          go_wp2_with fail
          refine (H1.out _).mono ?_
          rintro _ wa ⟨rfl, hg⟩
          have Ga := Lib.hid (hg)
          clear hg s0 s1 s2 s3 c0 c1 c2 c3
          obtain ⟨⟨s0, s1, _, _⟩, ⟨s2, s3, _, _⟩, c0, c1, c2, c3⟩ := CS.out _ Ga.out
          go_wp2_with fail
          refine (H2.out _).mono ?_
          rintro _ wb ⟨rfl, hg⟩
          have Gb := Lib.hid (Ga.out.trans (hg))
          clear hg s0 s1 s2 s3 c0 c1 c2 c3
          obtain ⟨⟨s0, s1, _, _⟩, ⟨s2, s3, _, _⟩, c0, c1, c2, c3⟩ := CS.out _ Gb.out
          go_wp2_with fail
          refine (H3.out _).mono ?_
          rintro _ wc ⟨rfl, hg⟩
          have Gc := Lib.hid (Gb.out.trans (hg))
          clear hg s0 s1 s2 s3 c0 c1 c2 c3
          obtain ⟨⟨s0, s1, _, _⟩, ⟨s2, s3, _, _⟩, c0, c1, c2, c3⟩ := CS.out _ Gc.out
          go_wp2_with fail
          refine (H4.out _).mono ?_
          rintro _ wd ⟨rfl, hg⟩
          have Gd := Lib.hid (Gc.out.trans (hg))
          clear hg s0 s1 s2 s3 c0 c1 c2 c3
          obtain ⟨⟨s0, s1, _, _⟩, ⟨s2, s3, _, _⟩, c0, c1, c2, c3⟩ := CS.out _ Gd.out

          cases t1 with
          | true =>
            go_wp2
            exact ⟨⟨j + 1 + 1, by simp, by omega, by omega, GS.out.trans Gd.out⟩, by simp only [intOf]; omega⟩
          | false =>
          cases t2 with
          | true =>
            go_wp2
            exact ⟨⟨j + 1 + 1, by simp, by omega, by omega, GS.out.trans Gd.out⟩, by simp only [intOf]; omega⟩
          | false =>
          cases t3 with
          | true =>
            go_wp2
            exact ⟨⟨j + 1 + 1, by simp, by omega, by omega, GS.out.trans Gd.out⟩, by simp only [intOf]; omega⟩
          | false =>
          cases t4 with
          | true =>
            go_wp2
            exact ⟨⟨j + 1 + 1, by simp, by omega, by omega, GS.out.trans Gd.out⟩, by simp only [intOf]; omega⟩
          | false =>
          go_wp2_with fail
          refine (of_any px py _).mono ?_
          rintro _ we ⟨rfl, hg⟩
          have Ge := Lib.hid (Gd.out.trans hg)
          clear hg s0 s1 s2 s3 c0 c1 c2 c3
          obtain ⟨⟨s0, s1, _, _⟩, ⟨s2, s3, _, _⟩, c0, c1, c2, c3⟩ := CS.out _ Ge.out
          go_wp2_with fail
          refine (HMP.out _).mono ?_
          rintro _ wf ⟨rfl, hg⟩
          have Gf := Lib.hid (Ge.out.trans hg)
          clear hg s0 s1 s2 s3 c0 c1 c2 c3
          obtain ⟨⟨s0, s1, _, _⟩, ⟨s2, s3, _, _⟩, c0, c1, c2, c3⟩ := CS.out _ Gf.out
          cases m1 with
          | false =>
            go_wp2
            exact ⟨⟨j + 1 + 1, by simp, by omega, by omega, GS.out.trans Gf.out⟩, by simp only [intOf]; omega⟩
          | true =>
          go_wp2_with fail
          refine (of_any qx qy _).mono ?_
          rintro _ wg ⟨rfl, hg⟩
          have Gg := Lib.hid (Gf.out.trans hg)
          clear hg s0 s1 s2 s3 c0 c1 c2 c3
          go_wp2_with fail
          refine (HMQ.out _).mono ?_
          rintro _ wh ⟨rfl, hg⟩
          have G12 := Lib.hid (Gg.out.trans hg)
          clear hg
          cases m2 with
          | false =>
            go_wp2
            exact ⟨⟨j + 1 + 1, by simp, by omega, by omega, GS.out.trans G12.out⟩, by simp only [intOf]; omega⟩
          | true =>
          have hV : t = tm := by have hh := HV.out; first | exact (hh rfl rfl rfl rfl rfl rfl).symm | exact (hh trivial trivial trivial trivial trivial trivial).symm | (simp at hh; exact hh.symm)
          subst hV
          clear HV
          go_wp2_with fail
          refine wp_region_tab 10 (by kernel_rfl) (by kernel_rfl) ?_
          intro w0 hw0 hg1 hg1'
          simp only [List.take_succ_cons, List.take_zero, List.drop_succ_cons, List.drop_zero]
          refine tab_val (pt px py) (fun r w1 hr hg hA => by obtain ⟨q0, -⟩ := hA; have q0e : r (.tmp 6) = .pointer (some ⟨b6, 0, none⟩) := q0; have hc := CS.out _ (G12.out.trans (hg1.trans hg)); exact ⟨rfl, by simp [go_sem, q0e, hc]⟩) ?_
          refine tab_val (pt qx qy) (fun r w1 hr hg hA => by obtain ⟨q0, -⟩ := hA; have q0e : r (.tmp 7) = .pointer (some ⟨b7, 0, none⟩) := q0; have hc := CS.out _ (G12.out.trans (hg1.trans hg)); exact ⟨rfl, by simp [go_sem, q0e, hc]⟩) ?_
          refine tab_block (.cells #[.int .i64 px, .int .i64 py, .int .i64 qx, .int .i64 qy] 24 (0, 0)) (fun b => .slice (some ⟨b, 0, none⟩) 2 2) (fun r w1 hr hg hA => by obtain ⟨⟨_, q0⟩, ⟨_, q1⟩, -⟩ := hA; have q0e : r (.tmp 95) = pt px py := q0; have q1e : r (.tmp 96) = pt qx qy := q1; exact ⟨rfl, by simp [go_sem, q0e, q1e]⟩) ?_
          refine tab_val (bx b) (fun r w1 hr hg hA => by obtain ⟨q0, -⟩ := hA; have q0e : r (.tmp 3) = .pointer (some ⟨w.heap.size, 0, none⟩) := q0; have hc := CS.out _ (G12.out.trans (hg1.trans hg)); exact ⟨rfl, by simp [go_sem, q0e, hc]⟩) ?_
          refine tab_callP (v := .bool t) (fun r w1 hr hg hA => by obtain ⟨⟨_, q0⟩, ⟨_, q1⟩, -⟩ := hA; have q1e : r (.tmp 98) = bx b := q1; obtain ⟨b0, q0, k0⟩ := q0; have q0e : r (.tmp 97) = .slice (some ⟨b0, 0, none⟩) 2 2 := q0; exact ⟨rfl, _, by simp [go_sem, hr.func, q0e, q1e], HME.out _ _ (pts_block (l := [(px, py), (qx, qy)]) k0 rfl (by simp))⟩) ?_
          refine tab_val (pt px py) (fun r w1 hr hg hA => by obtain ⟨q0, -⟩ := hA; have q0e : r (.tmp 6) = .pointer (some ⟨b6, 0, none⟩) := q0; have hc := CS.out _ (G12.out.trans (hg1.trans hg)); exact ⟨rfl, by simp [go_sem, q0e, hc]⟩) ?_
          refine tab_val (pt qx qy) (fun r w1 hr hg hA => by obtain ⟨q0, -⟩ := hA; have q0e : r (.tmp 7) = .pointer (some ⟨b7, 0, none⟩) := q0; have hc := CS.out _ (G12.out.trans (hg1.trans hg)); exact ⟨rfl, by simp [go_sem, q0e, hc]⟩) ?_
          refine tab_val (bx b) (fun r w1 hr hg hA => by obtain ⟨q0, -⟩ := hA; have q0e : r (.tmp 3) = .pointer (some ⟨w.heap.size, 0, none⟩) := q0; have hc := CS.out _ (G12.out.trans (hg1.trans hg)); exact ⟨rfl, by simp [go_sem, q0e, hc]⟩) ?_
          refine tab_call (v := .bool t) (fun w1 hg => HSH.out w1) (fun r w1 hr hg hA => by obtain ⟨⟨_, q0⟩, ⟨_, q1⟩, ⟨_, q2⟩, -⟩ := hA; have q0e : r (.tmp 100) = pt px py := q0; have q1e : r (.tmp 101) = pt qx qy := q1; have q2e : r (.tmp 102) = bx b := q2; exact ⟨rfl, by simp [go_sem, hr.func, q0e, q1e, q2e]⟩) ?_
          refine tab_val (.bool false) (fun r w1 hr hg hA => by obtain ⟨⟨_, q0⟩, ⟨_, q1⟩, -⟩ := hA; have q0e : r (.tmp 99) = .bool t := q0; have q1e : r (.tmp 103) = .bool t := q1; exact ⟨rfl, by simp [go_sem, q0e, q1e]⟩) ?_
          refine tab_end ?_
          simp only [List.reverse_cons, List.reverse_nil, List.nil_append, List.cons_append, Out, BlockP, forall_eq, forall_const, Act.put, List.setIfInBounds_toArray, List.set_cons_succ, List.set_cons_zero]
          intro wA hgA
          rintro _ ⟨b97, rfl, -⟩
          have G13 := Lib.hid (G12.out.trans (hg1.trans hgA))
          clear hg1 hgA hg1' hw0
          go_wp2
          exact ⟨⟨j + 1 + 1, by simp, by omega, by omega, GS.out.trans G13.out⟩, by simp only [intOf]; omega⟩
        · refine (‹∀ (a : Act) (w : World), Code.wp _ _ _ a w → _›) _ _ ?_
          have kk := box2h (w := wr) (x1 := .int .i64 qx) (y1 := .int .i64 qy) (x2 := .int .i64 px) (y2 := .int .i64 py) (T1 := 24) (T2 := 24) (Grows.refl _).dr
          have gg := (((Grows.refl wr).al (.cells #[.int .i64 qx, .int .i64 qy] 24)).al (.cells #[.int .i64 px, .int .i64 py] 24)).dr
          generalize World.drew _ = wS at kk gg ⊢
          obtain ⟨K7', K6'⟩ := kk
          generalize hs7 : wr.heap.size = b7 at K6' K7' ⊢
          generalize hs6 : b7 + 1 = b6 at K6' ⊢
          have K6 := Lib.hid K6'
          have K7 := Lib.hid K7'
          have GS := Lib.hid (G.out.trans gg)
          clear hs6 hs7 K6' K7' gg d0 d1 d2 d3 f0 f1 f2 f3 c01 c02 c03 c04 e0 e1 e2 i1 i2 i3 i4 hbR
          obtain ⟨s0, s1, _, _⟩ := cells2 K6.out
          obtain ⟨s2, s3, _, _⟩ := cells2 K7.out
          have CS := Lib.hid (fun w' (hg : Grows wS w') => And.intro (cells2 (hg.block K6.out)) (And.intro (cells2 (hg.block K7.out)) (BX.out w' ((HG.out.trans GS.out).trans hg))))
          obtain ⟨c0, c1, c2, c3⟩ := BX.out wS (HG.out.trans GS.out)
          have H1 := Lib.hid (fun w => atx_any px py qx qy b.lx w)
          have H2 := Lib.hid (fun w => atx_any px py qx qy b.hx w)
          have H3 := Lib.hid (fun w => aty_any px py qx qy b.ly w)
          have H4 := Lib.hid (fun w => aty_any px py qx qy b.hy w)
          have HV := Lib.hid (meets_two (px, py) (qx, qy) b Hr.out.symm)
          have HME := Lib.hid (fun u w (h : PtsAt w u [(px, py), (qx, qy)]) => meets_any u [(px, py), (qx, qy)] b w h (by simp))
          have HSH := Lib.hid (fun w => shown_any px py qx qy b w)
          have HMP := Lib.hid (fun w => may_any px py w)
          have HMQ := Lib.hid (fun w => may_any qx qy w)
          generalize meetsF [(px, py), (qx, qy)] b = tm at HME HV
          generalize shownB px py qx qy b = t at HSH HV
          generalize atxP px py qx qy b.lx = v1 at H1
          generalize atxP px py qx qy b.hx = v2 at H2
          generalize atxP py px qy qx b.ly = v3 at H3
          generalize atxP py px qy qx b.hy = v4 at H4
          generalize cutB px py qx qy b.lx = t1 at H1 HV
          generalize cutB px py qx qy b.hx = t2 at H2 HV
          generalize cutB py px qy qx b.ly = t3 at H3 HV
          generalize cutB py px qy qx b.hy = t4 at H4 HV
          generalize mayB px py = m1 at HMP HV
          generalize mayB qx qy = m2 at HMQ HV
          go_wp2_with fail
          refine (H1.out _).mono ?_
          rintro _ wa ⟨rfl, hg⟩
          have Ga := Lib.hid (hg)
          clear hg s0 s1 s2 s3 c0 c1 c2 c3
          obtain ⟨⟨s0, s1, _, _⟩, ⟨s2, s3, _, _⟩, c0, c1, c2, c3⟩ := CS.out _ Ga.out
          go_wp2_with fail
          refine (H2.out _).mono ?_
          rintro _ wb ⟨rfl, hg⟩
          have Gb := Lib.hid (Ga.out.trans (hg))
          clear hg s0 s1 s2 s3 c0 c1 c2 c3
          obtain ⟨⟨s0, s1, _, _⟩, ⟨s2, s3, _, _⟩, c0, c1, c2, c3⟩ := CS.out _ Gb.out
          go_wp2_with fail
          refine (H3.out _).mono ?_
          rintro _ wc ⟨rfl, hg⟩
          have Gc := Lib.hid (Gb.out.trans (hg))
          clear hg s0 s1 s2 s3 c0 c1 c2 c3
          obtain ⟨⟨s0, s1, _, _⟩, ⟨s2, s3, _, _⟩, c0, c1, c2, c3⟩ := CS.out _ Gc.out
          go_wp2_with fail
          refine (H4.out _).mono ?_
          rintro _ wd ⟨rfl, hg⟩
          have Gd := Lib.hid (Gc.out.trans (hg))
          clear hg s0 s1 s2 s3 c0 c1 c2 c3
          obtain ⟨⟨s0, s1, _, _⟩, ⟨s2, s3, _, _⟩, c0, c1, c2, c3⟩ := CS.out _ Gd.out

          cases t1 with
          | true =>
            go_wp2
            exact ⟨⟨j + 1 + 1, by simp, by omega, by omega, GS.out.trans Gd.out⟩, by simp only [intOf]; omega⟩
          | false =>
          cases t2 with
          | true =>
            go_wp2
            exact ⟨⟨j + 1 + 1, by simp, by omega, by omega, GS.out.trans Gd.out⟩, by simp only [intOf]; omega⟩
          | false =>
          cases t3 with
          | true =>
            go_wp2
            exact ⟨⟨j + 1 + 1, by simp, by omega, by omega, GS.out.trans Gd.out⟩, by simp only [intOf]; omega⟩
          | false =>
          cases t4 with
          | true =>
            go_wp2
            exact ⟨⟨j + 1 + 1, by simp, by omega, by omega, GS.out.trans Gd.out⟩, by simp only [intOf]; omega⟩
          | false =>
          go_wp2_with fail
          refine (of_any px py _).mono ?_
          rintro _ we ⟨rfl, hg⟩
          have Ge := Lib.hid (Gd.out.trans hg)
          clear hg s0 s1 s2 s3 c0 c1 c2 c3
          obtain ⟨⟨s0, s1, _, _⟩, ⟨s2, s3, _, _⟩, c0, c1, c2, c3⟩ := CS.out _ Ge.out
          go_wp2_with fail
          refine (HMP.out _).mono ?_
          rintro _ wf ⟨rfl, hg⟩
          have Gf := Lib.hid (Ge.out.trans hg)
          clear hg s0 s1 s2 s3 c0 c1 c2 c3
          obtain ⟨⟨s0, s1, _, _⟩, ⟨s2, s3, _, _⟩, c0, c1, c2, c3⟩ := CS.out _ Gf.out
          cases m1 with
          | false =>
            go_wp2
            exact ⟨⟨j + 1 + 1, by simp, by omega, by omega, GS.out.trans Gf.out⟩, by simp only [intOf]; omega⟩
          | true =>
          go_wp2_with fail
          refine (of_any qx qy _).mono ?_
          rintro _ wg ⟨rfl, hg⟩
          have Gg := Lib.hid (Gf.out.trans hg)
          clear hg s0 s1 s2 s3 c0 c1 c2 c3
          go_wp2_with fail
          refine (HMQ.out _).mono ?_
          rintro _ wh ⟨rfl, hg⟩
          have G12 := Lib.hid (Gg.out.trans hg)
          clear hg
          cases m2 with
          | false =>
            go_wp2
            exact ⟨⟨j + 1 + 1, by simp, by omega, by omega, GS.out.trans G12.out⟩, by simp only [intOf]; omega⟩
          | true =>
          have hV : t = tm := by have hh := HV.out; first | exact (hh rfl rfl rfl rfl rfl rfl).symm | exact (hh trivial trivial trivial trivial trivial trivial).symm | (simp at hh; exact hh.symm)
          subst hV
          clear HV
          go_wp2_with fail
          refine wp_region_tab 10 (by kernel_rfl) (by kernel_rfl) ?_
          intro w0 hw0 hg1 hg1'
          simp only [List.take_succ_cons, List.take_zero, List.drop_succ_cons, List.drop_zero]
          refine tab_val (pt px py) (fun r w1 hr hg hA => by obtain ⟨q0, -⟩ := hA; have q0e : r (.tmp 6) = .pointer (some ⟨b6, 0, none⟩) := q0; have hc := CS.out _ (G12.out.trans (hg1.trans hg)); exact ⟨rfl, by simp [go_sem, q0e, hc]⟩) ?_
          refine tab_val (pt qx qy) (fun r w1 hr hg hA => by obtain ⟨q0, -⟩ := hA; have q0e : r (.tmp 7) = .pointer (some ⟨b7, 0, none⟩) := q0; have hc := CS.out _ (G12.out.trans (hg1.trans hg)); exact ⟨rfl, by simp [go_sem, q0e, hc]⟩) ?_
          refine tab_block (.cells #[.int .i64 px, .int .i64 py, .int .i64 qx, .int .i64 qy] 24 (0, 0)) (fun b => .slice (some ⟨b, 0, none⟩) 2 2) (fun r w1 hr hg hA => by obtain ⟨⟨_, q0⟩, ⟨_, q1⟩, -⟩ := hA; have q0e : r (.tmp 95) = pt px py := q0; have q1e : r (.tmp 96) = pt qx qy := q1; exact ⟨rfl, by simp [go_sem, q0e, q1e]⟩) ?_
          refine tab_val (bx b) (fun r w1 hr hg hA => by obtain ⟨q0, -⟩ := hA; have q0e : r (.tmp 3) = .pointer (some ⟨w.heap.size, 0, none⟩) := q0; have hc := CS.out _ (G12.out.trans (hg1.trans hg)); exact ⟨rfl, by simp [go_sem, q0e, hc]⟩) ?_
          refine tab_callP (v := .bool t) (fun r w1 hr hg hA => by obtain ⟨⟨_, q0⟩, ⟨_, q1⟩, -⟩ := hA; have q1e : r (.tmp 98) = bx b := q1; obtain ⟨b0, q0, k0⟩ := q0; have q0e : r (.tmp 97) = .slice (some ⟨b0, 0, none⟩) 2 2 := q0; exact ⟨rfl, _, by simp [go_sem, hr.func, q0e, q1e], HME.out _ _ (pts_block (l := [(px, py), (qx, qy)]) k0 rfl (by simp))⟩) ?_
          refine tab_val (pt px py) (fun r w1 hr hg hA => by obtain ⟨q0, -⟩ := hA; have q0e : r (.tmp 6) = .pointer (some ⟨b6, 0, none⟩) := q0; have hc := CS.out _ (G12.out.trans (hg1.trans hg)); exact ⟨rfl, by simp [go_sem, q0e, hc]⟩) ?_
          refine tab_val (pt qx qy) (fun r w1 hr hg hA => by obtain ⟨q0, -⟩ := hA; have q0e : r (.tmp 7) = .pointer (some ⟨b7, 0, none⟩) := q0; have hc := CS.out _ (G12.out.trans (hg1.trans hg)); exact ⟨rfl, by simp [go_sem, q0e, hc]⟩) ?_
          refine tab_val (bx b) (fun r w1 hr hg hA => by obtain ⟨q0, -⟩ := hA; have q0e : r (.tmp 3) = .pointer (some ⟨w.heap.size, 0, none⟩) := q0; have hc := CS.out _ (G12.out.trans (hg1.trans hg)); exact ⟨rfl, by simp [go_sem, q0e, hc]⟩) ?_
          refine tab_call (v := .bool t) (fun w1 hg => HSH.out w1) (fun r w1 hr hg hA => by obtain ⟨⟨_, q0⟩, ⟨_, q1⟩, ⟨_, q2⟩, -⟩ := hA; have q0e : r (.tmp 100) = pt px py := q0; have q1e : r (.tmp 101) = pt qx qy := q1; have q2e : r (.tmp 102) = bx b := q2; exact ⟨rfl, by simp [go_sem, hr.func, q0e, q1e, q2e]⟩) ?_
          refine tab_val (.bool false) (fun r w1 hr hg hA => by obtain ⟨⟨_, q0⟩, ⟨_, q1⟩, -⟩ := hA; have q0e : r (.tmp 99) = .bool t := q0; have q1e : r (.tmp 103) = .bool t := q1; exact ⟨rfl, by simp [go_sem, q0e, q1e]⟩) ?_
          refine tab_end ?_
          simp only [List.reverse_cons, List.reverse_nil, List.nil_append, List.cons_append, Out, BlockP, forall_eq, forall_const, Act.put, List.setIfInBounds_toArray, List.set_cons_succ, List.set_cons_zero]
          intro wA hgA
          rintro _ ⟨b97, rfl, -⟩
          have G13 := Lib.hid (G12.out.trans (hg1.trans hgA))
          clear hg1 hgA hg1' hw0
          go_wp2
          exact ⟨⟨j + 1 + 1, by simp, by omega, by omega, GS.out.trans G13.out⟩, by simp only [intOf]; omega⟩
      · go_wp2_with fail
        refine (kn_any _).mono ?_
        rintro _ w3 ⟨rfl, hg⟩
        have HG3 := Lib.hid (((Grows.refl w).al _).trans (HG.out.trans (G.out.trans hg)))
        clear hg
        go_wp2
        go_ret
        exact ⟨rfl, HG3.out⟩
end Go.Proofs.Ytlkihbehiojimaa
