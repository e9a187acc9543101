/-
  Layer 20: the law on the tiles that are shown.
-/
import Derived.Test.YtfhohgemfojjmaaW17
namespace Go.Proofs.Ytfhohgemfojjmaa
open Go.RowKit Go.Tab Go.WideShapes

/-- Where a point has a tile that has a window: what the law asks. -/
theorem shows_facts {z buf px py : Int} (hb : hasB z px py = true) (hw : winB (ofT z px py).1 (ofT z px py).2.1 (ofT z px py).2.2 buf = true) :
    meetB (winBox (ofT z px py).1 (ofT z px py).2.1 (ofT z px py).2.2 buf) ⟨px, py, px, py⟩ = true ∧
    (ofT z px py ∈ shownL z buf ⟨px, py, px, py⟩ ↔ ((winBox (ofT z px py).1 (ofT z px py).2.1 (ofT z px py).2.2 buf).lx < px ∧ px < (winBox (ofT z px py).1 (ofT z px py).2.1 (ofT z px py).2.2 buf).hx ∧ (winBox (ofT z px py).1 (ofT z px py).2.1 (ofT z px py).2.2 buf).ly < py ∧ py < (winBox (ofT z px py).1 (ofT z px py).2.1 (ofT z px py).2.2 buf).hy)) := by
  obtain ⟨tx, ty, e, hl, hm, h1, h2, h3, h4⟩ := of_facts hb
  rw [e] at hw ⊢
  simp only at hw ⊢
  have hw' := hw
  simp only [winB, Bool.and_eq_true, decide_eq_true_eq] at hw'
  obtain ⟨⟨ht, b0⟩, b1⟩ := hw'
  obtain ⟨x0, x1, y0, y1⟩ := tileB_bd ht
  have hbx : winBox z tx ty buf = ⟨4096 * tx - buf, 4096 * ty - buf, 4096 * tx + 4096 + buf, 4096 * ty + 4096 + buf⟩ := by
    unfold winBox
    rw [if_pos hw]
  rw [hbx]
  simp only
  constructor
  · unfold meetB
    rw [mayB_self, hm, show (BoxI.mk (4096 * tx - buf) (4096 * ty - buf) (4096 * tx + 4096 + buf) (4096 * ty + 4096 + buf)).right = true from by
      rw [BoxI.right_iff]
      simp only [mayB_iff]
      omega]
    simp
    omega
  · constructor
    · intro h
      obtain ⟨_, _, _, _, g1, g2, g3, g4⟩ := shown_mem h
      exact ⟨g1, g2, g3, g4⟩
    · rintro ⟨g1, g2, g3, g4⟩
      exact shown_of hm hl b0 b1 g1 g2 g3 g4
theorem mem_getD {l : List Tl} {T : Tl} : T ∈ l ↔ ∃ j, j < l.length ∧ l.getD j (0, 0, 0) = T := by
  rw [List.mem_iff_getElem]
  constructor
  · rintro ⟨j, hj, e⟩
    exact ⟨j, hj, by rw [List.getD_eq_getElem?_getD, List.getElem?_eq_getElem hj]; exact e⟩
  · rintro ⟨j, hj, e⟩
    exact ⟨j, hj, by rw [List.getD_eq_getElem?_getD, List.getElem?_eq_getElem hj] at e; exact e⟩
theorem shownL_le (z buf : Int) (b : BoxI) : (shownL z buf b).length ≤ 256 := by
  unfold shownL
  split
  · exact Nat.le_trans (List.length_filter_le _ _) (tilesL_le z)
  · simp

set_option maxRecDepth 100000 in
set_option maxHeartbeats 8000000 in
theorem shows_law (z buf px py lx ly hx hy : Int) (w : World) : Calls Try.prog 4 #[.int .i64 z, .int .i64 buf, pt px py, bx ⟨lx, ly, hx, hy⟩] w (Ret (.bool true) w) := by
  have HO := Lib.hid (wof_any z px py)
  have HRO := Lib.hid (rof_any z px py)
  have HLE1 := shownL_le z buf ⟨lx, ly, hx, hy⟩
  have HLE2 := shownL_le z buf ⟨px, py, px, py⟩
  have HSH : Hid (∀ w, Calls Try.prog 23 #[.int .i64 z, .int .i64 buf, bx ⟨lx, ly, hx, hy⟩] w fun e w' => ∃ v, e = .returned v ∧ TlsAt w' v (shownL z buf ⟨lx, ly, hx, hy⟩) ∧ Grows w w') := Lib.hid fun w => (wshown_any z buf _ w).mono fun e w' ⟨v, he, ho, hg⟩ => ⟨v, he, own_tls ho rfl (by omega), hg⟩
  have HRS : Hid (∀ w, Calls Try.prog 24 #[.int .i64 z, .int .i64 buf, bx ⟨lx, ly, hx, hy⟩] w fun e w' => ∃ v, e = .returned v ∧ TlsAt w' v (shownL z buf ⟨lx, ly, hx, hy⟩) ∧ Grows w w') := Lib.hid fun w => (rshown_any z buf _ w).mono fun e w' ⟨v, he, ho, hg⟩ => ⟨v, he, own_tls ho rfl (by omega), hg⟩
  have HSP : Hid (∀ w, Calls Try.prog 23 #[.int .i64 z, .int .i64 buf, bx ⟨px, py, px, py⟩] w fun e w' => ∃ v, e = .returned v ∧ TlsAt w' v (shownL z buf ⟨px, py, px, py⟩) ∧ Grows w w') := Lib.hid fun w => (wshown_any z buf _ w).mono fun e w' ⟨v, he, ho, hg⟩ => ⟨v, he, own_tls ho rfl (by omega), hg⟩
  have HBX := Lib.hid (box_any lx ly hx hy)
  have HSF := Lib.hid (fun h1 h2 => shows_facts (z := z) (buf := buf) (px := px) (py := py) h1 h2)
  generalize shownL z buf ⟨lx, ly, hx, hy⟩ = L1 at HSH HRS HLE1
  generalize shownL z buf ⟨px, py, px, py⟩ = M at HSP HSF HLE2
  generalize ofT z px py = T at HO HRO HSF
  generalize hasB z px py = ok at HO HRO HSF
  obtain ⟨tz, tx, ty⟩ := T
  simp only at HO HRO HSF
  have HWN := Lib.hid (window_any tz tx ty buf)
  have HME := Lib.hid (fun w => meet_any (winBox tz tx ty buf) ⟨px, py, px, py⟩ w)
  generalize winB tz tx ty buf = has at HWN HSF
  generalize winBox tz tx ty buf = u at HWN HSF HME
  generalize meetB u ⟨px, py, px, py⟩ = me at HME HSF
  obtain ⟨ulx, uly, uhx, uhy⟩ := u
  have HA : Hid (∀ w', Grows ((w.alloc (.cells #[.int .i64 px, .int .i64 py] 25)).alloc (.cells #[.int .i64 lx, .int .i64 ly, .int .i64 hx, .int .i64 hy] 27)) w' →
      (w'.cell? ⟨w.heap.size, 0, none⟩ = some (.int .i64 px) ∧ w'.cell? ⟨w.heap.size, 1, none⟩ = some (.int .i64 py)) ∧
      (w'.cell? ⟨w.heap.size + 1, 0, none⟩ = some (.int .i64 lx) ∧ w'.cell? ⟨w.heap.size + 1, 1, none⟩ = some (.int .i64 ly) ∧ w'.cell? ⟨w.heap.size + 1, 2, none⟩ = some (.int .i64 hx) ∧ w'.cell? ⟨w.heap.size + 1, 3, none⟩ = some (.int .i64 hy)) ∧ Grows w w') :=
    Lib.hid fun w' hg => by
      obtain ⟨h1, h2, _, _⟩ := cells2 (hg.block ((Grows.alloc _ _).block (heap_new w (.cells #[.int .i64 px, .int .i64 py] 25) _ rfl)))
      exact ⟨⟨h1, h2⟩, cells4 (hg.block (heap_new _ _ _ (by simp only [World.size_alloc]))), (((Grows.refl w).al _).al _).trans hg⟩
  go_enter Try.func4, Try.ntmps4
  go_wp2_with fail
  refine (HO.out _).mono ?_
  rintro _ wa ⟨rfl, hg⟩
  have G1 := Lib.hid (hg.al (.cells #[.int .i64 tz, .int .i64 tx, .int .i64 ty] 23))
  have B9 := Lib.hid (heap_new wa (.cells #[.int .i64 tz, .int .i64 tx, .int .i64 ty] 23) _ rfl)
  obtain ⟨⟨a0, a1⟩, -, -⟩ := HA.out _ G1.out
  clear hg
  go_wp2_with fail
  refine (of_any px py _).mono ?_
  rintro _ wb ⟨rfl, hg⟩
  have G2 := Lib.hid hg
  clear hg a0 a1
  go_wp2_with fail
  refine (HRO.out _).mono ?_
  rintro _ wc ⟨rfl, hg⟩
  have G3 := Lib.hid ((G2.out.trans hg).al (.cells #[.int .i64 tz, .int .i64 tx, .int .i64 ty] 35))
  have B11 := Lib.hid (heap_new wc (.cells #[.int .i64 tz, .int .i64 tx, .int .i64 ty] 35) _ rfl)
  obtain ⟨-, ⟨b0, b1, b2, b3⟩, -⟩ := HA.out _ (G1.out.trans G3.out)
  clear hg
  go_wp2_with fail
  refine (HSH.out _).mono ?_
  rintro _ wd ⟨v13, rfl, hv13, hg⟩
  have K4 := Lib.hid hg
  have G4 := Lib.hid (G3.out.trans hg)
  have H13 := Lib.hid hv13
  obtain ⟨a13, c13, rfl, hc13, _⟩ := hv13.shape
  obtain ⟨n13, hn13⟩ : ∃ n, n = L1.length := ⟨_, rfl⟩
  rw [← hn13] at hc13 H13 ⊢
  clear hg hv13 b0 b1 b2 b3 hn13
  obtain ⟨-, ⟨b0, b1, b2, b3⟩, -⟩ := HA.out _ (G1.out.trans G4.out)
  obtain ⟨t0, t1, t2⟩ := cells3 (G4.out.block B9.out)
  obtain ⟨r0, r1, r2⟩ := cells3 (K4.out.block B11.out)
  go_wp2_with fail
  refine (HBX.out _).mono ?_
  rintro _ we ⟨rfl, hg⟩
  have K5 := Lib.hid hg
  clear hg b0 b1 b2 b3 t0 t1 t2 r0 r1 r2
  go_wp2_with fail
  refine (HRS.out _).mono ?_
  rintro _ wf ⟨vr, rfl, hvr, hg⟩
  have K6 := Lib.hid (K5.out.trans hg)
  have HVR := Lib.hid hvr
  clear hg hvr
  go_wp2_with fail
  refine (tsame_true _ _ L1 _ (H13.out.grows K6.out) HVR.out).mono ?_
  rintro _ wg ⟨rfl, hg⟩
  have G7 := Lib.hid (G4.out.trans (K6.out.trans hg))
  obtain ⟨t0, t1, t2⟩ := cells3 (G7.out.block B9.out)
  clear hg
  go_wp2_with fail
  refine (HWN.out _).mono ?_
  rintro _ wh ⟨rfl, hg⟩
  have G8 := Lib.hid (G7.out.trans (hg.al (.cells #[.int .i64 ulx, .int .i64 uly, .int .i64 uhx, .int .i64 uhy] 27)))
  have B14 := Lib.hid (heap_new wh (.cells #[.int .i64 ulx, .int .i64 uly, .int .i64 uhx, .int .i64 uhy] 27) _ rfl)
  clear hg t0 t1 t2
  obtain ⟨⟨a0, a1⟩, -, -⟩ := HA.out _ (G1.out.trans G8.out)
  cases ok with
  | false =>
    go_wp2_with fail
    refine (kn_any _).mono ?_
    rintro _ wi ⟨rfl, hg⟩
    have G9 := Lib.hid ((HA.out _ (G1.out.trans G8.out)).2.2.trans hg)
    clear hg a0 a1
    go_wp2
    go_ret
    exact ⟨rfl, G9.out⟩
  | true =>
  cases has with
  | false =>
    go_wp2_with fail
    refine (kn_any _).mono ?_
    rintro _ wi ⟨rfl, hg⟩
    have G9 := Lib.hid ((HA.out _ (G1.out.trans G8.out)).2.2.trans hg)
    clear hg a0 a1
    go_wp2
    go_ret
    exact ⟨rfl, G9.out⟩
  | true =>
  obtain ⟨rfl, hiff⟩ := HSF.out rfl rfl
  have HIF := Lib.hid hiff
  clear hiff HSF
  go_wp2_with fail
  refine (HSP.out _).mono ?_
  rintro _ wj ⟨v17, rfl, hv17, hg⟩
  have G9 := Lib.hid (G8.out.trans hg)
  have B14' := Lib.hid (hg.block B14.out)
  have H17 := Lib.hid hv17
  obtain ⟨a17, c17, rfl, hc17, _⟩ := hv17.shape
  obtain ⟨n, hn⟩ : ∃ n, n = M.length := ⟨_, rfl⟩
  rw [← hn] at hc17 H17 HLE2 ⊢
  have HN := Lib.hid hn
  clear hg hv17 a0 a1 hn
  go_wp2
  go_loopw [16, 18] (fun f' i wr => ∃ (k : Nat) (f : Bool), f' = .bool f ∧ i = .int .i64 (k : Int) ∧ k ≤ n ∧ (f = true ↔ ∃ j, j < k ∧ M.getD j (0, 0, 0) = (tz, tx, ty)) ∧ Grows wj wr) (fun _ i _ => n - (intOf i).toNat)
  case atStart => exact ⟨0, false, rfl, rfl, Nat.zero_le _, by simp, Grows.refl _⟩
  case round =>
    obtain ⟨k, f, rfl, rfl, hk, hf, hg⟩ := hrel
    have G := Lib.hid hg
    have HF := Lib.hid hf
    clear hg hf
    by_cases hkn : k < n
    · cases f with
      | true =>
        have HF2 : Hid (∃ j, j < k + 1 ∧ M.getD j (0, 0, 0) = (tz, tx, ty)) := Lib.hid (by obtain ⟨j, hj, e⟩ := HF.out.1 rfl; exact ⟨j, by omega, e⟩)
        go_wp2_with fail
        go_quiet (fail)
        rename_i nq
        have gd : Grows wr (wr.drewN nq) := Grows.drewN _ _
        generalize wr.drewN nq = wC at gd ⊢
        have G3' := Lib.hid (G.out.trans gd)
        clear gd
        go_wp2
        exact ⟨⟨k + 1, true, rfl, by simp, by omega, ⟨fun _ => HF2.out, fun _ => rfl⟩, G3'.out⟩, by simp only [intOf]; omega⟩
      | false =>
        obtain ⟨bA, oA, rfl, hbA, c1, c2, c3⟩ := (H17.out.grows G.out).at_ (i := k) (by rw [← HN.out]; exact hkn)
        obtain ⟨t0, t1, t2⟩ := cells3 ((G9.out.trans G.out).block B9.out)
        have HFK : Hid (∀ az ax ay, M.getD k (0, 0, 0) = (az, ax, ay) → ((∃ j, j < k + 1 ∧ M.getD j (0, 0, 0) = (tz, tx, ty)) ↔ (az = tz ∧ ax = tx ∧ ay = ty))) := Lib.hid fun az ax ay e => by
          constructor
          · rintro ⟨j, hj, ej⟩
            by_cases hjk : j < k
            · exact absurd (HF.out.2 ⟨j, hjk, ej⟩) (by simp)
            · obtain rfl : j = k := by omega
              rw [e] at ej
              simpa using ej
          · rintro ⟨rfl, rfl, rfl⟩
            exact ⟨k, by omega, e⟩
        generalize M.getD k (0, 0, 0) = p at c1 c2 c3 HFK
        obtain ⟨az, ax, ay⟩ := p
        simp only at c1 c2 c3
        have HK := Lib.hid (HFK.out az ax ay rfl)
        clear HFK
        have C4 : (az = tz ∧ ax = tx ∧ ay = ty) ∨ az ≠ tz ∨ (az = tz ∧ ax ≠ tx) ∨ (az = tz ∧ ax = tx ∧ ay ≠ ty) := by omega
        rcases C4 with ⟨rfl, rfl, rfl⟩ | e | ⟨rfl, e⟩ | ⟨rfl, rfl, e⟩
        · go_wp2_with fail
          go_quiet (fail)
          rename_i nq
          have gd : Grows wr (wr.drewN nq) := Grows.drewN _ _
          generalize wr.drewN nq = wC at gd ⊢
          have G3' := Lib.hid (G.out.trans gd)
          clear gd c1 c2 c3 t0 t1 t2
          go_wp2
          exact ⟨⟨k + 1, _, rfl, by simp, by omega, by rw [HK.out]; simp, G3'.out⟩, by simp only [intOf]; omega⟩
        · have E := Lib.hid e
          have eB : (az == tz) = false := by simpa using e
          clear e
          go_wp2_with fail
          go_quiet (fail)
          rename_i nq
          have gd : Grows wr (wr.drewN nq) := Grows.drewN _ _
          generalize wr.drewN nq = wC at gd ⊢
          have G3' := Lib.hid (G.out.trans gd)
          clear gd eB c1 c2 c3 t0 t1 t2
          go_wp2
          exact ⟨⟨k + 1, _, rfl, by simp, by omega, by rw [HK.out]; simp [E.out], G3'.out⟩, by simp only [intOf]; omega⟩
        · have E := Lib.hid e
          have eB : (ax == tx) = false := by simpa using e
          clear e
          go_wp2_with fail
          go_quiet (fail)
          rename_i nq
          have gd : Grows wr (wr.drewN nq) := Grows.drewN _ _
          generalize wr.drewN nq = wC at gd ⊢
          have G3' := Lib.hid (G.out.trans gd)
          clear gd eB c1 c2 c3 t0 t1 t2
          go_wp2
          exact ⟨⟨k + 1, _, rfl, by simp, by omega, by rw [HK.out]; simp [E.out], G3'.out⟩, by simp only [intOf]; omega⟩
        · have E := Lib.hid e
          have eB : (ay == ty) = false := by simpa using e
          clear e
          go_wp2_with fail
          go_quiet (fail)
          rename_i nq
          have gd : Grows wr (wr.drewN nq) := Grows.drewN _ _
          generalize wr.drewN nq = wC at gd ⊢
          have G3' := Lib.hid (G.out.trans gd)
          clear gd eB c1 c2 c3 t0 t1 t2
          go_wp2
          exact ⟨⟨k + 1, _, rfl, by simp, by omega, by rw [HK.out]; simp [E.out], G3'.out⟩, by simp only [intOf]; omega⟩
    · obtain rfl : k = n := by omega
      have HFI : Hid (f = decide (ulx < px ∧ px < uhx ∧ uly < py ∧ py < uhy)) := Lib.hid (by
        rw [Bool.eq_iff_iff, HF.out, decide_eq_true_iff, ← HIF.out, mem_getD, HN.out])
      obtain ⟨⟨a0, a1⟩, -, -⟩ := HA.out _ (G1.out.trans (G9.out.trans G.out))
      obtain ⟨u0, u1, u2, u3⟩ := cells4 (G.out.block B14'.out)
      by_cases hin : ulx < px ∧ px < uhx ∧ uly < py ∧ py < uhy
      · have hft : f = true := by rw [HFI.out]; simpa using hin
        subst hft
        obtain ⟨i1, i2, i3, i4⟩ := hin
        go_wp2_with fail
        refine (kn_any _).mono ?_
        rintro _ wk ⟨rfl, hg⟩
        have K10 := Lib.hid (G.out.trans hg)
        clear hg a0 a1 u0 u1 u2 u3
        obtain ⟨⟨a0, a1⟩, -, -⟩ := HA.out _ (G1.out.trans (G9.out.trans K10.out))
        obtain ⟨u0, u1, u2, u3⟩ := cells4 (K10.out.block B14'.out)
        go_wp2_with fail
        refine (HME.out _).mono ?_
        rintro _ wl ⟨rfl, hg⟩
        have G11 := Lib.hid ((HA.out _ (G1.out.trans (G9.out.trans K10.out))).2.2.trans hg)
        clear hg a0 a1 u0 u1 u2 u3
        go_wp2
        go_ret
        exact ⟨rfl, G11.out⟩
      · have hft : f = false := by rw [HFI.out]; simpa using hin
        subst hft
        have HIN := Lib.hid hin
        clear hin
        go_wp2_with (go_at_call 19; refine (kn_any _).mono ?_; rintro _ wk ⟨rfl, hg⟩; have K10 := Lib.hid (G.out.trans hg); clear hg a0 a1 u0 u1 u2 u3; obtain ⟨⟨a0, a1⟩, -, -⟩ := HA.out _ (G1.out.trans (G9.out.trans K10.out)); obtain ⟨u0, u1, u2, u3⟩ := cells4 (K10.out.block B14'.out))
        all_goals
          refine (HME.out _).mono ?_
          rintro _ wl ⟨rfl, hg⟩
          have G11 := Lib.hid ((HA.out _ (G1.out.trans (G9.out.trans K10.out))).2.2.trans hg)
          clear hg a0 a1 u0 u1 u2 u3
          go_wp2
          first
            | (go_ret; exact ⟨rfl, G11.out⟩)
            | (go_ret; exact ⟨ret_bool (by have h1 := HIN.out; have h2 : ¬ py < uhy := (by omega); simp [h2]), G11.out⟩)
            | (exfalso; have := HIN.out; omega)
end Go.Proofs.Ytfhohgemfojjmaa
