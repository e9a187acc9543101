/-
  Layer 22: rows put together, as the document's: the walk.
-/
import Derived.Test.YtlkihbehiojimaaK17
namespace Go.Proofs.Ytlkihbehiojimaa
open Go.RowKit Go.Tab Go.WideShapes

set_option maxRecDepth 100000 in
set_option maxHeartbeats 8000000 in
theorem rjoin_any (v : Value) (ps : List (List (Int × Int))) (w : World) (hv : RowsAt w v ps) (hl : ps.length ≤ 100) (hr : ∀ q ∈ ps, q.length ≤ 1000) :
    Calls Try.prog 20 #[v] w (fun e w' => ∃ u, e = .returned u ∧ RowsAt w' u (joinF ps) ∧ Grows w w') := by
  obtain ⟨i0, hi0, hz0, hz1, hz2⟩ := info_parts infoRow
  obtain ⟨j0, hj0, hy0, hy1, hy2⟩ := info_parts infoRP
  have HV := Lib.hid hv
  obtain ⟨a, c, rfl, hnc, _, _⟩ := hv
  obtain ⟨n, hln⟩ : ∃ n, n = ps.length := ⟨_, rfl⟩
  rw [← hln] at hl hnc HV ⊢
  have HN := Lib.hid hln
  have HR := Lib.hid hr
  clear hln hr
  go_enter Try.func20, Try.ntmps20
  go_wp2
  go_loopw [3, 4, 5] (fun o' u' i wr => ∃ (k : Nat) (out cur : Value) (vs : List Value) (s : List Row2 × Row2), out = o' ∧ cur = u' ∧ i = .int .i64 (k : Int) ∧ k ≤ n ∧ Hid (s = (ps.take k).foldl joinS ([], [])) ∧ Hid (wr.ownsRow w.heap.size 28 1 out vs.length vs) ∧ Hid (Fin 30 wr.heap.size wr vs s.1) ∧ Hid (wr.ownsRow 0 30 2 cur s.2.length (flat s.2)) ∧ Hid (s.2.length ≤ 1000 * k) ∧ Hid (s.1.length ≤ k) ∧ Hid (Grows w wr)) (fun _ _ i _ => n + 1 - (intOf i).toNat)
  case atStart => exact ⟨0, _, _, [], ([], []), rfl, rfl, rfl, Nat.zero_le _, Lib.hid rfl, Lib.hid (World.ownsRow_nil _ _ _ _), Lib.hid (Fin.nil _ _ _), Lib.hid (World.ownsRow_nil _ _ _ _), Lib.hid (Nat.zero_le _), Lib.hid (Nat.zero_le _), Lib.hid (Grows.refl _)⟩
  case round =>
    obtain ⟨k, out, cur, vs, s, rfl, rfl, rfl, hk, HS, HO, HVS, HC, HL2, HL1, G⟩ := hrel
    by_cases hkn : k < n
    · have hkp : k < ps.length := by rw [← HN.out]; exact hkn
      have hq := List.getElem?_eq_getElem hkp
      have HQL := Lib.hid (HR.out _ (List.getElem_mem hkp))
      obtain ⟨ba, oa, x, rfl, hba, c1, p1⟩ := HV.out.at_ hq
      have HFT := Lib.hid (fold_take ps k hkp)
      rw [← HS.out] at HFT
      have HPQ := Lib.hid (fun w' (hg : Grows w w') => p1.grows hg)
      have HCX := Lib.hid (fun w' (hg : Grows w w') => (show w'.cell? ⟨ba, oa + k, none⟩ = some x by rw [Below.cell hg (p := ⟨ba, oa + k, none⟩) hba]; exact c1))
      have p0 := p1
      generalize ps[k] = q at HFT HPQ HQL p0
      obtain ⟨ax, cx, rfl, hqc, _⟩ := p0.shape
      have c1' := HCX.out wr G.out
      have HP0 := Lib.hid p0
      clear c1 p1 hq hkp p0
      have I1 : Hid ((0 : Int) ≤ (k : Int)) := Lib.hid (by omega)
      have I2 : Hid ((k : Int) < (n : Int)) := Lib.hid (by omega)
      by_cases hq0 : q.length = 0
      · have hq0' : q = [] := List.eq_nil_of_length_eq_zero hq0
        subst hq0'
        rw [show joinS s [] = s from by unfold joinS; rw [if_pos rfl]] at HFT
        simp only [List.length_nil] at c1' hqc
        go_wp2
        exact ⟨⟨k + 1, _, _, vs, s, rfl, rfl, by simp, by omega, Lib.hid HFT.out.symm, HO, HVS, HC, Lib.hid (by have := HL2.out; omega), Lib.hid (by have := HL1.out; omega), G⟩, by simp only [intOf]; omega⟩
      · obtain ⟨m, hm⟩ : ∃ m, q.length = m + 1 := ⟨q.length - 1, by omega⟩
        have HM := Lib.hid hm
        have hm1000 : m + 1 ≤ 1000 := by rw [← hm]; exact HQL.out
        rw [hm] at c1' hqc HPQ HCX HP0
        clear hm hq0
        obtain ⟨bq, oq, rfl, hbq, -, -⟩ := HP0.out.at_ (i := 0) (by rw [HM.out]; omega)
        have HQ0 := Lib.hid (fun w' (hg : Grows w w') => (HPQ.out w' hg).at_cell (i := 0) (by rw [HM.out]; omega))
        have HRQ := Lib.hid (fun w' (hg : Grows w w') => (by have h := (HPQ.out w' hg).row; rw [HM.out] at h; exact h : RowAt 2 w' (.slice (some ⟨bq, oq, none⟩) (m + 1) cx) (m + 1) (flat q)))
        have HQP : Hid (0 < q.length) := Lib.hid (by rw [HM.out]; omega)
        obtain ⟨-, au, cu, rfl, hcu, hau⟩ := own_one HC.out
        by_cases hc0 : s.2.length = 0
        · have hs0 : s.2 = [] := List.eq_nil_of_length_eq_zero hc0
          have HJ := Lib.hid (joinS_new hs0 (q := q) (by intro h; have := HQP.out; rw [h] at this; simp at this))
          rw [hc0] at hcu ⊢
          clear hc0 hs0 hau HC
          go_wp2_with fail
          go_quiet (fail)
          rename_i nq
          have gd : Grows wr (wr.drewN nq) := ⟨rfl, rfl, rfl, Nat.le_refl _, fun _ _ => rfl⟩
          generalize wr.drewN nq = wB at gd ⊢
          have HO2 := Lib.hid (ownsRow_later HO.out gd)
          have HVS2 := Lib.hid ((HVS.out.grows gd).more gd.size)
          have G := Lib.hid (G.out.trans gd)
          clear gd c1'
          have c2' := HCX.out (wB.alloc (.cells #[] 30)) (G.out.al _)
          go_wp2_with (at_builtin; go_loud (refine append_row rfl _ _ 28 rfl wB.heap.size 30 j0 _ 2 16 Try.underlying28 hj0 hy0 hy1 hy2 rfl (by decide) (.slice (some ⟨wB.heap.size, 0, none⟩) 0 0) 0 [] rfl (own_empty (by decide)) (m + 1) _ _ rfl (HRQ.out _ (G.out.al _)) (by unfold maxLen; omega) (by omega) (by rw [World.size_alloc]; omega) ?_; intro v7 w7 hown7 hgr7; have HO57 := Lib.hid hown7; have GAL := Lib.hid (hgr7 wB ((Grows.refl _).al _) (Nat.le_refl _)); clear hown7 hgr7 c2'))
          have GA := Lib.hid (G.out.trans GAL.out)
          exact ⟨⟨k + 1, _, _, vs, (s.1, q), rfl, rfl, by simp, by omega, Lib.hid (by rw [HFT.out, HJ.out]), Lib.hid (ownsRow_later HO2.out GAL.out), Lib.hid ((HVS2.out.grows GAL.out).more GAL.out.size), Lib.hid (by have := own_base HO57.out (Nat.zero_le _); rw [Nat.zero_add, List.nil_append] at this; simp only [HM.out]; exact this), Lib.hid (by simp only [HM.out]; omega), Lib.hid (by have := HL1.out; simp only; omega), GA⟩, by simp only [intOf]; omega⟩
        · obtain ⟨j, hj⟩ : ∃ j, s.2.length = j + 1 := ⟨s.2.length - 1, by omega⟩
          have HJ := Lib.hid hj
          have hj5 : j + 1 ≤ 100000 := by have := HL2.out; omega
          have hpc := own_pts HC.out rfl (by omega)
          rw [hj] at hcu hpc ⊢
          obtain ⟨bc, oc, rfl, hbc, -, -⟩ := hpc.at_ (i := 0) (by omega)
          obtain ⟨l0, l1⟩ := hpc.at_cell (i := j) (by omega)
          obtain ⟨h0, h1⟩ := HQ0.out wr G.out
          have HRC := Lib.hid (fun w' (hg : Grows wr w') => (by have h := (hpc.grows hg).row; rw [hj] at h; exact h : RowAt 2 w' (.slice (some ⟨bc, oc, none⟩) (j + 1) cu) (j + 1) (flat s.2)))
          have HON := Lib.hid (joinS_on (s := s) (q := q) hj HQP.out)
          have HOFF := Lib.hid (joinS_off (s := s) (q := q) hj HQP.out)
          generalize s.2.getD j (0, 0) = lp at l0 l1 HON HOFF
          generalize q.getD 0 (0, 0) = hp at h0 h1 HON HOFF HQ0
          obtain ⟨lx, ly⟩ := lp
          obtain ⟨hx, hy⟩ := hp
          have e0 : (j : Int) + 1 - 1 = (j : Int) := by omega
          replace h0 : wr.cell? ⟨bq, oq, none⟩ = some (.int .i64 hx) := h0
          replace h1 : wr.cell? ⟨bq, oq + 1, none⟩ = some (.int .i64 hy) := h1
          simp only at l0 l1
          clear hc0 hau hpc hj
          have C3 : (lx = hx ∧ ly = hy) ∨ lx ≠ hx ∨ (lx = hx ∧ ly ≠ hy) := by omega
          rcases C3 with ⟨rfl, rfl⟩ | e | ⟨rfl, e⟩
          · go_wp2_with fail
            go_quiet (fail)
            rename_i nq
            have gd : Grows wr (wr.drewN nq) := ⟨rfl, rfl, rfl, Nat.le_refl _, fun _ _ => rfl⟩
            generalize wr.drewN nq = wB at gd ⊢
            have HO2 := Lib.hid (ownsRow_later HO.out gd)
            have HVS2 := Lib.hid ((HVS.out.grows gd).more gd.size)
            have HC2 := Lib.hid (ownsRow_later HC.out gd)
            have G := Lib.hid (G.out.trans gd)
            clear gd c1' l0 l1 h0 h1 e0
            have HJS := Lib.hid (HON.out trivial)
            have HSL : Hid ((1 : Int) ≤ (m : Int) + 1) := Lib.hid (by omega)
            have HRT := Lib.hid (fun w' (hg : Grows wB w') => tail_row (HPQ.out w' (G.out.trans hg)) HM.out)
            have HRC := Lib.hid (fun w' (hg : Grows wB w') => (by have h := (own_pts (ownsRow_later HC2.out hg) rfl (by rw [HJ.out]; omega)).row; rw [HJ.out] at h; exact h : RowAt 2 w' (.slice (some ⟨bc, oc, none⟩) (j + 1) cu) (j + 1) (flat s.2)))
            go_wp2_with fail
            refine wp_region_tab 8 (by kernel_rfl) (by kernel_rfl) ?_
            intro w0 hw0 hg1 hg1'
            simp only [List.take_succ_cons, List.take_zero, List.drop_succ_cons, List.drop_zero]
            refine tab_empty 30 (fun r w1 hr hg hA => ⟨rfl, by simp [go_sem]⟩) ?_
            refine tab_val (.slice (some ⟨bc, oc, none⟩) (j + 1) cu) (fun r w1 hr hg hA => by obtain ⟨q0, -⟩ := hA; have q0e : r (.tmp 4) = .slice (some ⟨bc, oc, none⟩) (j + 1) cu := q0; exact ⟨rfl, by simp [go_sem, q0e]⟩) ?_
            refine tab_append0 _ _ 28 30 j0 _ 2 16 (j + 1) (flat s.2) rfl Try.underlying28 hj0 hy0 hy1 hy2 rfl (by decide) (by unfold maxLen; omega) (by omega) (fun r w1 hr hg hA => by obtain ⟨⟨_, q0⟩, ⟨_, q1⟩, -⟩ := hA; have q1e : r (.tmp 37) = .slice (some ⟨bc, oc, none⟩) (j + 1) cu := q1; exact ⟨rfl, q0, by rw [q1e]; exact HRC.out w1 (hg1.trans hg)⟩) ?_
            refine tab_val (.slice (some ⟨ba, oa, none⟩) n c) (fun r w1 hr hg hA => by obtain ⟨q0, -⟩ := hA; have q0e : r (.tmp 0) = .slice (some ⟨ba, oa, none⟩) n c := q0; exact ⟨rfl, by simp [go_sem, q0e]⟩) ?_
            refine tab_val (.int .i64 (k : Int)) (fun r w1 hr hg hA => by obtain ⟨q0, -⟩ := hA; have q0e : r (.tmp 5) = .int .i64 (k : Int) := q0; exact ⟨rfl, by simp [go_sem, q0e]⟩) ?_
            refine tab_val (.pointer (some ⟨ba, oa + k, none⟩)) (fun r w1 hr hg hA => by obtain ⟨⟨_, q0⟩, ⟨_, q1⟩, -⟩ := hA; have q0e : r (.tmp 39) = .slice (some ⟨ba, oa, none⟩) n c := q0; have q1e : r (.tmp 40) = .int .i64 (k : Int) := q1; exact ⟨rfl, by simp [go_sem, q0e, q1e, I1.out, I2.out]⟩) ?_
            refine tab_val (.slice (some ⟨bq, oq, none⟩) (m + 1) cx) (fun r w1 hr hg hA => by obtain ⟨⟨_, q0⟩, -⟩ := hA; have q0e : r (.tmp 41) = .pointer (some ⟨ba, oa + k, none⟩) := q0; have hc := HCX.out w1 (G.out.trans (hg1.trans hg)); exact ⟨rfl, by simp [go_sem, q0e, hc]⟩) ?_
            refine tab_val (.slice (if cx = 1 then some ⟨bq, oq, none⟩ else some ⟨bq, oq + 2, none⟩) m (cx - 1)) (fun r w1 hr hg hA => by obtain ⟨⟨_, q0⟩, -⟩ := hA; have q0e : r (.tmp 42) = .slice (some ⟨bq, oq, none⟩) (m + 1) cx := q0; exact ⟨rfl, by simp [go_sem, hr.const, q0e, HSL.out]⟩) ?_
            refine tab_end ?_
            simp only [List.reverse_cons, List.reverse_nil, List.nil_append, List.cons_append, Out, BlockP, forall_eq, forall_const, Act.put, List.setIfInBounds_toArray, List.set_cons_succ, List.set_cons_zero]
            intro wA hgA v36 h36 v38 h38
            clear h36
            have hj6 : j + 1 + m ≤ 200000 := by omega
            have G8 := Lib.hid (G.out.trans (hg1.trans hgA))
            have GA8 := Lib.hid (hg1.trans hgA)
            have H38 := Lib.hid h38
            have HSZ := Lib.hid hgA.size
            clear hg1' hw0 hgA h38
            have G08 := Lib.hid hg1
            clear hg1
            generalize (if cx = 1 then some (⟨bq, oq, none⟩ : Addr) else some ⟨bq, oq + 2, none⟩) = AD at HRT ⊢
            go_wp2_with (at_builtin; go_loud (refine append_row2 rfl _ _ 28 rfl w0.heap.size 30 j0 _ 2 16 Try.underlying28 hj0 hy0 hy1 hy2 rfl (by decide) v38 (j + 1) _ rfl H38.out m _ _ rfl (HRT.out _ GA8.out) (by unfold maxLen; omega) (by omega) HSZ.out ?_; intro v5 w5 hown5 hgr5; have O5 := Lib.hid hown5; have G5 := Lib.hid (Below.grown (GA8.out) hgr5 (by have h1 := GA8.out.size; omega) (fun kk hkk => Nat.le_trans G08.out.size (own_lt H38.out kk hkk).1)); clear hown5 hgr5))
            have hlen : (s.2 ++ q.tail).length = j + 1 + m := by rw [List.length_append, HJ.out, List.length_tail, HM.out]; rfl
            have hO := Lib.hid (show w5.ownsRow 0 30 2 v5 (s.2 ++ q.tail).length (flat (s.2 ++ q.tail)) from by rw [hlen, flat_append]; exact own_base O5.out (Nat.zero_le _))
            exact ⟨⟨k + 1, _, v5, vs, (s.1, s.2 ++ q.tail), rfl, rfl, by simp, by omega, Lib.hid (by rw [HFT.out, HJS.out]), Lib.hid (ownsRow_later HO2.out G5.out), Lib.hid ((HVS2.out.grows G5.out).more G5.out.size), hO, Lib.hid (by have h1 := HL2.out; have h3 := HJ.out; simp only [hlen]; omega), Lib.hid (by have := HL1.out; simp only; omega), Lib.hid (G.out.trans G5.out)⟩, by simp only [intOf]; omega⟩
          · have hne : ((lx, ly) : Int × Int) ≠ (hx, hy) := fun h => e (by injection h)
            have eB : (lx == hx) = false := by simpa using e
            have HJS := Lib.hid (HOFF.out hne)
            clear e hne
            go_wp2_with fail
            go_quiet (fail)
            rename_i nq
            have gd : Grows wr (wr.drewN nq) := ⟨rfl, rfl, rfl, Nat.le_refl _, fun _ _ => rfl⟩
            generalize wr.drewN nq = wB at gd ⊢
            have HO2 := Lib.hid (ownsRow_later HO.out gd)
            have HVS2 := Lib.hid ((HVS.out.grows gd).more gd.size)
            have HC2 := Lib.hid (ownsRow_later HC.out gd)
            have G := Lib.hid (G.out.trans gd)
            clear gd c1' l0 l1 h0 h1 e0 eB
            have HPU : Hid (Fin 30 wB.heap.size wB (vs ++ [.slice (some ⟨bc, oc, none⟩) (j + 1) cu]) (s.1 ++ [s.2])) := Lib.hid (by have h := HVS2.out.push rfl (by rw [HJ.out]; omega) HC2.out (fun k hk => (own_lt HC2.out k hk).2); rwa [HJ.out] at h)
            have HVL : Hid (vs.length ≤ 100) := Lib.hid (by have := HVS2.out.1; have := HL1.out; omega)
            have hjp : (0 : Int) < (j : Int) + 1 := by omega
            have c3' := HCX.out wB G.out
            go_upto_region 11 with (at_builtin; go_loud (refine append_row2 rfl _ _ 40 rfl w.heap.size 28 i0 _ 1 24 Try.underlying40 hi0 hz0 hz1 hz2 rfl (by decide) _ vs.length _ rfl (ownsRow_later HO2.out ((Grows.refl _).al _)) 1 [.slice (some ⟨bc, oc, none⟩) (j + 1) cu] _ rfl (rowOne _ _ _ _ rfl rfl) (by have := HVL.out; unfold maxLen; omega) (by have := HVL.out; omega) (by have := G.out.size; rw [World.size_alloc]; omega) ?_; intro v5 w5 hown5 hgr5; have O5 := Lib.hid hown5; have F5 := Lib.hid (((HPU.out.grows ((Grows.refl _).al _)).other (ownsRow_later HO2.out ((Grows.refl _).al _)) (by decide) hgr5).more (by have := hgr5.size; rw [World.size_alloc] at this; omega : wB.heap.size ≤ w5.heap.size)); have G5 : Hid (Grows w w5) := Lib.hid (Below.grown (G.out.al _) hgr5 (by have := G.out.size; rw [World.size_alloc]; omega) (fun kk hkk => (own_lt HO2.out kk hkk).1)); clear hown5 hgr5 c3'))
            have c2' := HCX.out (w5.alloc (.cells #[] 30)) (G5.out.al _)
            go_wp2_with (at_builtin; go_loud (refine append_row rfl _ _ 28 rfl w5.heap.size 30 j0 _ 2 16 Try.underlying28 hj0 hy0 hy1 hy2 rfl (by decide) (.slice (some ⟨w5.heap.size, 0, none⟩) 0 0) 0 [] rfl (own_empty (by decide)) (m + 1) _ _ rfl (HRQ.out _ (G5.out.al _)) (by unfold maxLen; omega) (by omega) (by rw [World.size_alloc]; omega) ?_; intro v7 w7 hown7 hgr7; have HO57 := Lib.hid hown7; have GAL := Lib.hid (hgr7 w5 ((Grows.refl _).al _) (Nat.le_refl _)); clear hown7 hgr7 c2'))
            have GA := Lib.hid (G5.out.trans GAL.out)
            exact ⟨⟨k + 1, _, _, vs ++ [.slice (some ⟨bc, oc, none⟩) (j + 1) cu], (s.1 ++ [s.2], q), rfl, rfl, by simp, by omega, Lib.hid (by rw [HFT.out, HJS.out]), Lib.hid (by rw [List.length_append]; exact ownsRow_later O5.out GAL.out), Lib.hid ((F5.out.grows GAL.out).more GAL.out.size), Lib.hid (by have := own_base HO57.out (Nat.zero_le _); rw [Nat.zero_add, List.nil_append] at this; simp only [HM.out]; exact this), Lib.hid (by simp only [HM.out]; omega), Lib.hid (by have := HL1.out; simp only [List.length_append, List.length_singleton]; omega), GA⟩, by simp only [intOf]; omega⟩
          · have hne : ((lx, ly) : Int × Int) ≠ (lx, hy) := fun h => e (by injection h)
            have eB : (ly == hy) = false := by simpa using e
            have HJS := Lib.hid (HOFF.out hne)
            clear e hne
            go_wp2_with fail
            go_quiet (fail)
            rename_i nq
            have gd : Grows wr (wr.drewN nq) := ⟨rfl, rfl, rfl, Nat.le_refl _, fun _ _ => rfl⟩
            generalize wr.drewN nq = wB at gd ⊢
            have HO2 := Lib.hid (ownsRow_later HO.out gd)
            have HVS2 := Lib.hid ((HVS.out.grows gd).more gd.size)
            have HC2 := Lib.hid (ownsRow_later HC.out gd)
            have G := Lib.hid (G.out.trans gd)
            clear gd c1' l0 l1 h0 h1 e0 eB
            have HPU : Hid (Fin 30 wB.heap.size wB (vs ++ [.slice (some ⟨bc, oc, none⟩) (j + 1) cu]) (s.1 ++ [s.2])) := Lib.hid (by have h := HVS2.out.push rfl (by rw [HJ.out]; omega) HC2.out (fun k hk => (own_lt HC2.out k hk).2); rwa [HJ.out] at h)
            have HVL : Hid (vs.length ≤ 100) := Lib.hid (by have := HVS2.out.1; have := HL1.out; omega)
            have hjp : (0 : Int) < (j : Int) + 1 := by omega
            have c3' := HCX.out wB G.out
            go_upto_region 11 with (at_builtin; go_loud (refine append_row2 rfl _ _ 40 rfl w.heap.size 28 i0 _ 1 24 Try.underlying40 hi0 hz0 hz1 hz2 rfl (by decide) _ vs.length _ rfl (ownsRow_later HO2.out ((Grows.refl _).al _)) 1 [.slice (some ⟨bc, oc, none⟩) (j + 1) cu] _ rfl (rowOne _ _ _ _ rfl rfl) (by have := HVL.out; unfold maxLen; omega) (by have := HVL.out; omega) (by have := G.out.size; rw [World.size_alloc]; omega) ?_; intro v5 w5 hown5 hgr5; have O5 := Lib.hid hown5; have F5 := Lib.hid (((HPU.out.grows ((Grows.refl _).al _)).other (ownsRow_later HO2.out ((Grows.refl _).al _)) (by decide) hgr5).more (by have := hgr5.size; rw [World.size_alloc] at this; omega : wB.heap.size ≤ w5.heap.size)); have G5 : Hid (Grows w w5) := Lib.hid (Below.grown (G.out.al _) hgr5 (by have := G.out.size; rw [World.size_alloc]; omega) (fun kk hkk => (own_lt HO2.out kk hkk).1)); clear hown5 hgr5 c3'))
            have c2' := HCX.out (w5.alloc (.cells #[] 30)) (G5.out.al _)
            go_wp2_with (at_builtin; go_loud (refine append_row rfl _ _ 28 rfl w5.heap.size 30 j0 _ 2 16 Try.underlying28 hj0 hy0 hy1 hy2 rfl (by decide) (.slice (some ⟨w5.heap.size, 0, none⟩) 0 0) 0 [] rfl (own_empty (by decide)) (m + 1) _ _ rfl (HRQ.out _ (G5.out.al _)) (by unfold maxLen; omega) (by omega) (by rw [World.size_alloc]; omega) ?_; intro v7 w7 hown7 hgr7; have HO57 := Lib.hid hown7; have GAL := Lib.hid (hgr7 w5 ((Grows.refl _).al _) (Nat.le_refl _)); clear hown7 hgr7 c2'))
            have GA := Lib.hid (G5.out.trans GAL.out)
            exact ⟨⟨k + 1, _, _, vs ++ [.slice (some ⟨bc, oc, none⟩) (j + 1) cu], (s.1 ++ [s.2], q), rfl, rfl, by simp, by omega, Lib.hid (by rw [HFT.out, HJS.out]), Lib.hid (by rw [List.length_append]; exact ownsRow_later O5.out GAL.out), Lib.hid ((F5.out.grows GAL.out).more GAL.out.size), Lib.hid (by have := own_base HO57.out (Nat.zero_le _); rw [Nat.zero_add, List.nil_append] at this; simp only [HM.out]; exact this), Lib.hid (by simp only [HM.out]; omega), Lib.hid (by have := HL1.out; simp only [List.length_append, List.length_singleton]; omega), GA⟩, by simp only [intOf]; omega⟩
    · have hkn' : n = k := by omega
      subst hkn'
      have HT : Hid (s = ps.foldl joinS ([], [])) := Lib.hid (by rw [HS.out, List.take_of_length_le (by rw [← HN.out]; exact Nat.le_refl _)])
      have HF : Hid (joinF ps = outS s) := Lib.hid (by unfold joinF; rw [← HT.out])
      have HCO := Lib.hid (own_one HC.out)
      have HVL : Hid (vs.length ≤ 1000) := Lib.hid (by have := HVS.out.1; have := HL1.out; omega)
      have HC2L : Hid (s.2.length ≤ 100000) := Lib.hid (by have := HL2.out; omega)
      by_cases hc0 : s.2.length = 0
      · have hc0' : s.2 = [] := List.eq_nil_of_length_eq_zero hc0
        obtain ⟨-, au, cu, rfl, hcu, hau⟩ := HCO.out
        rw [hc0] at hcu ⊢
        clear hau hc0
        go_wp2
        go_ret
        exact ⟨_, rfl, by rw [HF.out]; unfold outS; rw [if_pos hc0']; exact rows_own HO.out HVS.out, G.out⟩
      · have HNE : Hid (outS s = s.1 ++ [s.2]) := Lib.hid (by unfold outS; rw [if_neg (fun h => hc0 (by rw [h]; rfl))])
        have HPU := Lib.hid (HVS.out.push HCO.out.1 HC2L.out HC.out (fun k hk => (own_lt HC.out k hk).2))
        obtain ⟨-, au, cu, rfl, hcu, hau⟩ := HCO.out
        obtain ⟨j, hj⟩ : ∃ j, s.2.length = j + 1 := ⟨s.2.length - 1, by omega⟩
        rw [hj] at hcu HPU ⊢
        clear hau hj hc0 HC HCO
        go_wp2_with (at_builtin; go_loud (refine append_row2 rfl _ _ 40 rfl w.heap.size 28 i0 _ 1 24 Try.underlying40 hi0 hz0 hz1 hz2 rfl (by decide) _ vs.length _ rfl (ownsRow_later HO.out ((Grows.refl _).al _)) 1 [.slice au (j + 1) cu] _ rfl (rowOne _ _ _ _ rfl rfl) (by have := HVL.out; unfold maxLen; omega) (by have := HVL.out; omega) (by have := G.out.size; rw [World.size_alloc]; omega) ?_; intro v5 w5 hown5 hgr5; have O5 := Lib.hid hown5; have F5 := Lib.hid ((HPU.out.grows ((Grows.refl _).al _)).other (ownsRow_later HO.out ((Grows.refl _).al _)) (by decide) hgr5); have G5 : Hid (Grows w w5) := Lib.hid (Below.grown (G.out.al _) hgr5 (by have := G.out.size; rw [World.size_alloc]; omega) (fun kk hkk => (own_lt HO.out kk hkk).1)); clear hown5 hgr5))
        go_ret
        exact ⟨_, rfl, by rw [HF.out, HNE.out]; exact rows_own (vs := vs ++ [.slice au (j + 1) cu]) (by rw [List.length_append]; exact O5.out) F5.out, G5.out⟩
end Go.Proofs.Ytlkihbehiojimaa
