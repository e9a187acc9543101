/-
  Layer 22: rows put together: the program's walk.
-/
import Derived.Test.YtlkihbehiojimaaK18
import Derived.Deep.RegionLaw
import Derived.BigRegion
namespace Go.Proofs.Ytlkihbehiojimaa
open Go.RowKit Go.Tab Go.WideShapes

theorem grown_set (w : World) (b o : Nat) (u : Value) : w.grownBy (w.setCell ⟨b, o, none⟩ u) (some b) :=
  ⟨rfl, rfl, rfl, by simp [World.setCell], fun k _ hk => Below.heap_setCell _ _ _ k (fun e => hk (by rw [e]))⟩
theorem own_succ {w : World} {base : Nat} {e : TypeId} {size : Nat} {v : Value} {k : Nat} {xs : List Value} (h : w.ownsRow base e size v (k + 1) xs) : ∃ g cap, v = .slice (some ⟨g, 0, none⟩) (k + 1) cap := by
  rcases h.2 with ⟨_, h0⟩ | ⟨g, cap, _, rfl, _⟩
  · omega
  · exact ⟨g, cap, rfl⟩
theorem own_jm {w : World} {base : Nat} {e : TypeId} {size : Nat} {v : Value} {j m : Nat} {xs : List Value} (h : w.ownsRow base e size v (j + 1 + m) xs) : ∃ g cap, v = .slice (some ⟨g, 0, none⟩) (j + m + 1) cap := by
  rw [show j + 1 + m = j + m + 1 by omega] at h
  exact own_succ h
/-- The last of an owned row. -/
theorem own_last {w : World} {base : Nat} {T : TypeId} {out x : Value} {fs : List Value} (h : w.ownsRow base T 1 out (fs ++ [x]).length (fs ++ [x])) :
    ∃ g cap, out = .slice (some ⟨g, 0, none⟩) (fs.length + 1) cap ∧ fs.length + 1 ≤ cap ∧ base ≤ g ∧ g < w.heap.size ∧ w.cell? ⟨g, fs.length, none⟩ = some x ∧ w.frozen? ⟨g, fs.length, none⟩ = false ∧
      ∀ u : Value, u.oneCell' = true → (w.setCell ⟨g, fs.length, none⟩ u).ownsRow base T 1 out (fs.length + 1) (fs ++ [u]) := by
  have hlen : (fs ++ [x]).length = fs.length + 1 := by simp
  rw [hlen] at h
  obtain ⟨hl, ⟨_, h0⟩ | ⟨g, cap, cur, rfl, hb, hh, h1, h2, h3, h4⟩⟩ := h
  · omega
  · have hlt := (Array.getElem?_eq_some_iff.1 hh).1
    have hcs : fs.length < cur.size := by rw [h3]; omega
    have hx : cur[fs.length]? = some x := by
      have : (List.take ((fs.length + 1) * 1) cur.toList)[fs.length]? = (fs ++ [x])[fs.length]? := by rw [h4]
      rw [List.getElem?_take_of_lt (by omega), List.getElem?_append_right (Nat.le_refl _)] at this
      rw [← Array.getElem?_toList, this]
      simp
    refine ⟨g, cap, rfl, h1, hb, hlt, by simp [World.cell?, hh, hx], by simp [World.frozen?, hh], fun u hu => ?_⟩
    refine ⟨by simp, .inr ⟨g, cap, cur.setIfInBounds fs.length u, rfl, hb, ?_, h1, h2, by simpa using h3, ?_⟩⟩
    · simp [World.setCell, Array.getElem?_modify, hh]
    · rw [Array.toList_setIfInBounds, List.take_set, h4]
      rw [List.set_append_right _ _ (Nat.le_refl _)]
      simp
theorem goodS_nil {ps : List Row2} {s : List Row2 × Row2} (h : s = ps.foldl joinS ([], [])) (h2 : s.2 = []) : s.1 = [] := by
  have := goodS_fold ps ([], []) ⟨fun _ => rfl, trivial⟩
  rw [← h] at this
  exact this.1 h2

/-- What the program holds while rows come in. -/
def JState (w wr : World) (out : Value) (s : List Row2 × Row2) : Prop :=
  (s.2 = [] ∧ s.1 = [] ∧ out = .slice none 0 0) ∨ ∃ (fs : List Value) (x : Value) (B j : Nat), s.2.length = j + 1 ∧ wr.ownsRow w.heap.size 22 1 out (fs ++ [x]).length (fs ++ [x]) ∧ Fin 24 B wr fs s.1 ∧ wr.ownsRow B 24 2 x (j + 1) (flat s.2) ∧ w.heap.size ≤ B ∧ B ≤ wr.heap.size

set_option maxRecDepth 100000 in
set_option maxHeartbeats 8000000 in
theorem join_any (v : Value) (ps : List (List (Int × Int))) (w : World) (hv : RowsAt w v ps) (hl : ps.length ≤ 100) (hr : ∀ q ∈ ps, q.length ≤ 1000) :
    Calls Try.prog 19 #[v] w (fun e w' => ∃ u, e = .returned u ∧ RowsAt w' u (joinF ps) ∧ Grows w w') := by
  obtain ⟨i0, hi0, hz0, hz1, hz2⟩ := info_parts infoRowP
  obtain ⟨j0, hj0, hy0, hy1, hy2⟩ := info_parts infoPt
  have HV := Lib.hid hv
  obtain ⟨a, c, rfl, hnc, _, _⟩ := hv
  obtain ⟨n, hln⟩ : ∃ n, n = ps.length := ⟨_, rfl⟩
  rw [← hln] at hl hnc HV ⊢
  have HN := Lib.hid hln
  have HR := Lib.hid hr
  clear hln hr
  go_enter Try.func19, Try.ntmps19
  go_wp2
  go_loopw [3, 9] (fun o' i wr => ∃ (k : Nat) (out : Value) (s : List Row2 × Row2), out = o' ∧ i = .int .i64 (k : Int) ∧ k ≤ n ∧ Hid (s = (ps.take k).foldl joinS ([], [])) ∧ Hid (JState w wr out s) ∧ Hid (s.2.length ≤ 1000 * k) ∧ Hid (s.1.length ≤ k) ∧ Hid (Grows w wr)) (fun _ i _ => n + 1 - (intOf i).toNat)
  case atStart => exact ⟨0, _, ([], []), rfl, rfl, Nat.zero_le _, Lib.hid rfl, Lib.hid (.inl ⟨rfl, rfl, rfl⟩), Lib.hid (Nat.zero_le _), Lib.hid (Nat.zero_le _), Lib.hid (Grows.refl _)⟩
  case round =>
    obtain ⟨k, out, s, rfl, rfl, hk, HS, HJS0, HL2, HL1, G⟩ := hrel
    by_cases hkn : k < n
    · have hkp : k < ps.length := by rw [← HN.out]; exact hkn
      have hq := List.getElem?_eq_getElem hkp
      have HQL := Lib.hid (HR.out _ (List.getElem_mem hkp))
      obtain ⟨ba, oa, x, rfl, hba, c1, p1⟩ := HV.out.at_ hq
      have HFT := Lib.hid (fold_take ps k hkp)
      rw [← HS.out] at HFT
      have HPQ := Lib.hid (fun w' (hg : Grows w w') => p1.grows hg)
      have c1' : wr.cell? ⟨ba, oa + k, none⟩ = some x := by rw [Below.cell G.out (p := ⟨ba, oa + k, none⟩) hba]; exact c1
      have p0 := p1
      generalize ps[k] = q at HFT HPQ HQL p0
      obtain ⟨ax, cx, rfl, hqc, _⟩ := p0.shape
      have HP0 := Lib.hid p0
      clear c1 p1 hq hkp p0
      by_cases hq0 : q.length = 0
      · have hq0' : q = [] := List.eq_nil_of_length_eq_zero hq0
        subst hq0'
        rw [show joinS s [] = s from by unfold joinS; rw [if_pos rfl]] at HFT
        simp only [List.length_nil] at c1' hqc
        go_wp2
        exact ⟨⟨k + 1, _, s, rfl, by simp, by omega, Lib.hid HFT.out.symm, HJS0, Lib.hid (by have := HL2.out; omega), Lib.hid (by have := HL1.out; omega), G⟩, by simp only [intOf]; omega⟩
      · obtain ⟨m, hm⟩ : ∃ m, q.length = m + 1 := ⟨q.length - 1, by omega⟩
        have HM := Lib.hid hm
        have hm1000 : m + 1 ≤ 1000 := by rw [← hm]; exact HQL.out
        rw [hm] at c1' hqc HPQ HP0
        clear hm hq0
        obtain ⟨bq, oq, rfl, hbq, -, -⟩ := HP0.out.at_ (i := 0) (by rw [HM.out]; omega)
        have HQ0 := Lib.hid (fun w' (hg : Grows w w') => (HPQ.out w' hg).at_cell (i := 0) (by rw [HM.out]; omega))
        have HQP : Hid (0 < q.length) := Lib.hid (by rw [HM.out]; omega)
        rcases HJS0.out with ⟨hs2, hs1, rfl⟩ | ⟨fs, x, B, j, hj, hout, hfin, hx, hB1, hB2⟩
        · have HJ := Lib.hid (joinS_new hs2 (q := q) (by intro h; have := HQP.out; rw [h] at this; simp at this))
          have HS1 := Lib.hid hs1
          clear hs1 hs2 HJS0
          go_wp2_with fail
          go_quiet (fail)
          rename_i nq
          have gd : Grows wr (wr.drewN nq) := ⟨rfl, rfl, rfl, Nat.le_refl _, fun _ _ => rfl⟩
          generalize wr.drewN nq = wB at gd ⊢
          have G := Lib.hid (G.out.trans gd)
          clear gd c1'
          go_wp2_with fail
          refine (clone_any _ q wB (HPQ.out wB G.out) (by rw [HM.out]; exact hm1000)).mono ?_
          rintro _ wC ⟨v', rfl, hown, hg⟩
          rw [HM.out] at hown
          obtain ⟨-, av, cv, rfl, hcv, -⟩ := own_one hown
          have HO := Lib.hid hown
          have GC := Lib.hid (G.out.trans hg)
          have HSC := Lib.hid hg.size
          clear hg hown
          obtain ⟨ov, hov⟩ : ∃ ov, ov = Value.slice none 0 0 := ⟨_, rfl⟩
          have HO0 : Hid (wC.ownsRow w.heap.size 22 1 ov 0 []) := Lib.hid (by rw [hov]; exact World.ownsRow_nil _ _ _ _)
          rw [← hov]
          have HOV := Lib.hid hov
          clear hov
          go_wp2_with (at_builtin; go_loud (refine append_row2 rfl _ _ 38 rfl w.heap.size 22 i0 _ 1 24 Try.underlying38 hi0 hz0 hz1 hz2 rfl (by decide) ov 0 [] rfl (ownsRow_later HO0.out ((Grows.refl _).al _)) 1 [.slice av (m + 1) cv] _ rfl (rowOne _ _ _ _ rfl rfl) (by unfold maxLen; omega) (by omega) (by have := GC.out.size; rw [World.size_alloc]; omega) ?_; intro v5 w5 hown5 hgr5; have O5 := Lib.hid hown5; have X5 := Lib.hid (own_other (ownsRow_later HO0.out ((Grows.refl _).al _)) (ownsRow_later HO.out ((Grows.refl _).al _)) (by decide) hgr5); have G5 : Hid (Grows w w5) := Lib.hid (Below.grown (GC.out.al _) hgr5 (by have := GC.out.size; rw [World.size_alloc]; omega) (fun kk hkk => (own_lt HO0.out kk hkk).1)); have S5 := Lib.hid hgr5.size; rw [HOV.out]; clear hown5 hgr5))
          exact ⟨⟨k + 1, v5, (s.1, q), rfl, by simp, by omega, Lib.hid (by rw [HFT.out, HJ.out]), Lib.hid (.inr ⟨[], .slice av (m + 1) cv, wB.heap.size, m, HM.out, O5.out, by rw [HS1.out]; exact Fin.nil _ _ _, X5.out, G.out.size, by have h1 := S5.out; have h2 := HSC.out; rw [World.size_alloc] at h1; omega⟩), Lib.hid (by simp only [HM.out]; omega), Lib.hid (by have := HL1.out; simp only; omega), G5⟩, by simp only [intOf]; omega⟩
        · have HJ := Lib.hid hj
          have hj5 : j + 1 ≤ 100000 := by have := HL2.out; omega
          obtain ⟨bo, co, rfl, hco, hbo1, hbo2, xc, xf, -⟩ := own_last hout
          obtain ⟨bc, cu, rfl⟩ := own_succ hx
          have HO := Lib.hid hout
          have HFN := Lib.hid hfin
          have HX := Lib.hid hx
          have hpc := own_pts hx (by rw [hj]) (by omega)
          obtain ⟨f, hf⟩ : ∃ f, f = fs.length := ⟨_, rfl⟩
          rw [← hf] at hco xc xf ⊢
          have HFL := Lib.hid hf
          have hf1 : f ≤ 100 := by have h1 := hfin.1; have h2 := HL1.out; omega
          obtain ⟨l0, l1⟩ := hpc.at_cell (i := j) (by omega)
          rw [Nat.zero_add] at l0 l1
          obtain ⟨h0, h1⟩ := HQ0.out wr G.out
          have HON := Lib.hid (joinS_on (s := s) (q := q) hj HQP.out)
          have HOFF := Lib.hid (joinS_off (s := s) (q := q) hj HQP.out)
          generalize s.2.getD j (0, 0) = lp at l0 l1 HON HOFF
          generalize q.getD 0 (0, 0) = hp at h0 h1 HON HOFF HQ0
          obtain ⟨lx, ly⟩ := lp
          obtain ⟨hx', hy'⟩ := hp
          replace h0 : wr.cell? ⟨bq, oq, none⟩ = some (.int .i64 hx') := h0
          replace h1 : wr.cell? ⟨bq, oq + 1, none⟩ = some (.int .i64 hy') := h1
          simp only at l0 l1
          have e0 : (j : Int) + 1 - 1 = (j : Int) := by omega
          have x0 : (f : Int) + 1 - 1 = (f : Int) := by omega
          have x1 : (0 : Int) ≤ (f : Int) := by omega
          have x2 : (f : Int) < (f : Int) + 1 := by omega
          have J1 := Lib.hid x1
          have J2 := Lib.hid x2
          clear hpc hj hx hfin hout hf HJS0
          have C3 : (lx = hx' ∧ ly = hy') ∨ lx ≠ hx' ∨ (lx = hx' ∧ ly ≠ hy') := by omega
          rcases C3 with ⟨rfl, rfl⟩ | e | ⟨rfl, e⟩
          · go_wp2_with fail
            go_quiet (fail)
            rename_i nq
            have gd : Grows wr (wr.drewN nq) := ⟨rfl, rfl, rfl, Nat.le_refl _, fun _ _ => rfl⟩
            generalize wr.drewN nq = wB at gd ⊢
            have HO2 := Lib.hid (ownsRow_later HO.out gd)
            have HFN2 := Lib.hid (HFN.out.grows gd)
            have HX2 := Lib.hid (ownsRow_later HX.out gd)
            have HSB := Lib.hid gd.size
            have G := Lib.hid (G.out.trans gd)
            clear gd c1' l0 l1 h0 h1 e0 x0 x1 x2
            clear xc xf
            have HJS := Lib.hid (HON.out trivial)
            have HSL : Hid ((1 : Int) ≤ (m : Int) + 1) := Lib.hid (by omega)
            have HRT := Lib.hid (fun w' (hg : Grows wB w') => tail_row (HPQ.out w' (G.out.trans hg)) HM.out)
            have hgd : Grows wB wB.drew := (Grows.refl _).dr
            have HX3 := Lib.hid (ownsRow_later HX2.out hgd)
            have HO3 := Lib.hid (ownsRow_later HO2.out hgd)
            have HF3 := Lib.hid (HFN2.out.grows hgd)
            have HR3 := Lib.hid (HRT.out _ hgd)
            have hoc : wB.cell? ⟨bo, f, none⟩ = some (.slice (some ⟨bc, 0, none⟩) (j + 1) cu) := by
              obtain ⟨g1, c1, e1, -, -, -, k1, -, -⟩ := own_last HO2.out
              cases e1
              rw [← HFL.out] at k1
              exact k1
            have hj6 : j + 1 + m ≤ 200000 := by omega
            have hBB : B ≤ wB.heap.size := Nat.le_trans hB2 HSB.out
            have hBw : w.heap.size ≤ wB.heap.size := G.out.size
            have x1 := J1.out
            have x2 := J2.out
            have hsl := HSL.out
            clear hgd HRT
            go_wp2_with fail
            go_region_law ((refine step_append_row (by rfl) _ _ _ (by rfl) B 24 j0 _ 2 16 Try.underlying22 hj0 hy0 hy1 hy2 rfl (by decide) (.slice (some ⟨bc, 0, none⟩) (j + 1) cu) (j + 1) _ (by rfl) HX3.out m _ (.slice (if cx = 1 then some ⟨bq, oq, none⟩ else some ⟨bq, oq + 2, none⟩) m (cx - 1)) (by rfl) HR3.out (by unfold maxLen; omega) (by omega) hBB ?_; intro v5 w5 hown5 hgr5; have O5 := Lib.hid hown5; have F5 := Lib.hid (HF3.out.beyond hgr5 (fun k hk => (own_lt HX3.out k hk).1)); have Q5 := Lib.hid (own_other HX3.out HO3.out (by decide) hgr5); have G5 : Hid (Grows w w5) := Lib.hid (Below.grown (G.out.dr) hgr5 hBw (fun kk hkk => Nat.le_trans hB1 (own_lt HX3.out kk hkk).1)); have S5 := Lib.hid hgr5.size; clear hown5 hgr5; obtain ⟨g1, c1, e1, -, y1, y3, y4, y5, y6⟩ := own_last Q5.out; cases e1; rw [← HFL.out] at y4 y5 y6; obtain ⟨b5, c5, rfl⟩ := own_jm O5.out; have Y6 := Lib.hid y6; clear y6))
            have HU := Lib.hid (Y6.out (.slice (some ⟨b5, 0, none⟩) (j + m + 1) c5) rfl)
            have hgs := grown_set w5 bo f (.slice (some ⟨b5, 0, none⟩) (j + m + 1) c5)
            have F6 := Lib.hid (F5.out.other Q5.out (by decide) hgs)
            have O6 := Lib.hid (own_other Q5.out O5.out (by decide) hgs)
            have G6 := Lib.hid (G5.out.st (p := ⟨bo, f, none⟩) y1 (.slice (some ⟨b5, 0, none⟩) (j + m + 1) c5))
            have S6 := Lib.hid hgs.size
            have hlen : (s.2 ++ q.tail).length = j + m + 1 := by rw [List.length_append, HJ.out, List.length_tail, HM.out]; omega
            have HLE := Lib.hid hlen
            clear hgs hlen y1 y3 y4 y5 x1 x2 hsl hoc
            go_wp2
            exact ⟨⟨k + 1, _, (s.1, s.2 ++ q.tail), rfl, by simp, by omega, Lib.hid (by rw [HFT.out, HJS.out]), Lib.hid (.inr ⟨fs, .slice (some ⟨b5, 0, none⟩) (j + m + 1) c5, B, j + m, HLE.out, by have h1 := HU.out; rw [List.length_append, List.length_singleton, ← HFL.out]; exact h1, F6.out, by have h1 := O6.out; rw [show j + 1 + m = j + m + 1 by omega] at h1; simp only [flat_append]; exact h1, hB1, by have h1 := S6.out; have h2 := S5.out; have h3 : wB.drew.heap.size = wB.heap.size := rfl; omega⟩), Lib.hid (by have h1 := HL2.out; have h3 := HJ.out; simp only [HLE.out]; omega), Lib.hid (by have := HL1.out; simp only; omega), G6⟩, by simp only [intOf]; omega⟩
          · have hne : ((lx, ly) : Int × Int) ≠ (hx', hy') := fun h => e (by injection h)
            have eB : (lx == hx') = false := by simpa using e
            have HJS := Lib.hid (HOFF.out hne)
            clear e hne
            go_wp2_with fail
            go_quiet (fail)
            rename_i nq
            have gd : Grows wr (wr.drewN nq) := ⟨rfl, rfl, rfl, Nat.le_refl _, fun _ _ => rfl⟩
            generalize wr.drewN nq = wB at gd ⊢
            have HO2 := Lib.hid (ownsRow_later HO.out gd)
            have HFN2 := Lib.hid (HFN.out.grows gd)
            have HX2 := Lib.hid (ownsRow_later HX.out gd)
            have HSB := Lib.hid gd.size
            have G := Lib.hid (G.out.trans gd)
            clear gd c1' l0 l1 h0 h1 e0 eB x0 x1 x2
            clear xc xf
            have HPU := Lib.hid ((HFN2.out.more (Nat.le_trans hB2 HSB.out)).push rfl (by rw [HJ.out]; omega) (by rw [HJ.out]; exact own_base HX2.out (Nat.zero_le _)) (fun k hk => (own_lt HX2.out k hk).2))
            go_wp2_with fail
            refine (clone_any _ q wB (HPQ.out wB G.out) (by rw [HM.out]; exact hm1000)).mono ?_
            rintro _ wC ⟨v', rfl, hown, hg⟩
            rw [HM.out] at hown
            obtain ⟨-, av, cv, rfl, hcv, -⟩ := own_one hown
            have HC := Lib.hid hown
            have GC := Lib.hid (G.out.trans hg)
            have HPC := Lib.hid (HPU.out.grows hg)
            have HOC := Lib.hid (ownsRow_later HO2.out hg)
            have HSC := Lib.hid hg.size
            clear hg hown
            obtain ⟨ov, hov⟩ : ∃ ov, ov = Value.slice (some ⟨bo, 0, none⟩) (f + 1) co := ⟨_, rfl⟩
            have HO0 : Hid (wC.ownsRow w.heap.size 22 1 ov (f + 1) (fs ++ [.slice (some ⟨bc, 0, none⟩) (j + 1) cu])) := Lib.hid (by rw [hov]; exact (by have h1 := HOC.out; rw [List.length_append, List.length_singleton, ← HFL.out] at h1; exact h1))
            rw [← hov]
            have HOV := Lib.hid hov
            clear hov
            go_wp2_with (at_builtin; go_loud (refine append_row2 rfl _ _ 38 rfl w.heap.size 22 i0 _ 1 24 Try.underlying38 hi0 hz0 hz1 hz2 rfl (by decide) ov (f + 1) (fs ++ [.slice (some ⟨bc, 0, none⟩) (j + 1) cu]) rfl (ownsRow_later HO0.out ((Grows.refl _).al _)) 1 [.slice av (m + 1) cv] _ rfl (rowOne _ _ _ _ rfl rfl) (by unfold maxLen; omega) (by omega) (by have := GC.out.size; rw [World.size_alloc]; omega) ?_; intro v5 w5 hown5 hgr5; have O5 := Lib.hid hown5; have X5 := Lib.hid (own_other (ownsRow_later HO0.out ((Grows.refl _).al _)) (ownsRow_later HC.out ((Grows.refl _).al _)) (by decide) hgr5); have G5 : Hid (Grows w w5) := Lib.hid (Below.grown (GC.out.al _) hgr5 (by have := GC.out.size; rw [World.size_alloc]; omega) (fun kk hkk => (own_lt HO0.out kk hkk).1)); have S5 := Lib.hid hgr5.size; have F5 := Lib.hid ((HPC.out.grows ((Grows.refl _).al _)).other (ownsRow_later HO0.out ((Grows.refl _).al _)) (by decide) hgr5); rw [HOV.out]; clear hown5 hgr5))
            exact ⟨⟨k + 1, v5, (s.1 ++ [s.2], q), rfl, by simp, by omega, Lib.hid (by rw [HFT.out, HJS.out]), Lib.hid (.inr ⟨fs ++ [.slice (some ⟨bc, 0, none⟩) (j + 1) cu], .slice av (m + 1) cv, wB.heap.size, m, HM.out, by have h1 := O5.out; rw [List.length_append, List.length_append, List.length_singleton, List.length_singleton, ← HFL.out]; exact h1, F5.out, X5.out, G.out.size, by have h1 := S5.out; have h2 := HSC.out; rw [World.size_alloc] at h1; omega⟩), Lib.hid (by simp only [HM.out]; omega), Lib.hid (by have := HL1.out; simp only [List.length_append, List.length_singleton]; omega), G5⟩, by simp only [intOf]; omega⟩
          · have hne : ((lx, ly) : Int × Int) ≠ (lx, hy') := fun h => e (by injection h)
            have eB : (ly == hy') = false := by simpa using e
            have HJS := Lib.hid (HOFF.out hne)
            clear e hne
            go_wp2_with fail
            go_quiet (fail)
            rename_i nq
            have gd : Grows wr (wr.drewN nq) := ⟨rfl, rfl, rfl, Nat.le_refl _, fun _ _ => rfl⟩
            generalize wr.drewN nq = wB at gd ⊢
            have HO2 := Lib.hid (ownsRow_later HO.out gd)
            have HFN2 := Lib.hid (HFN.out.grows gd)
            have HX2 := Lib.hid (ownsRow_later HX.out gd)
            have HSB := Lib.hid gd.size
            have G := Lib.hid (G.out.trans gd)
            clear gd c1' l0 l1 h0 h1 e0 eB x0 x1 x2
            clear xc xf
            have HPU := Lib.hid ((HFN2.out.more (Nat.le_trans hB2 HSB.out)).push rfl (by rw [HJ.out]; omega) (by rw [HJ.out]; exact own_base HX2.out (Nat.zero_le _)) (fun k hk => (own_lt HX2.out k hk).2))
            go_wp2_with fail
            refine (clone_any _ q wB (HPQ.out wB G.out) (by rw [HM.out]; exact hm1000)).mono ?_
            rintro _ wC ⟨v', rfl, hown, hg⟩
            rw [HM.out] at hown
            obtain ⟨-, av, cv, rfl, hcv, -⟩ := own_one hown
            have HC := Lib.hid hown
            have GC := Lib.hid (G.out.trans hg)
            have HPC := Lib.hid (HPU.out.grows hg)
            have HOC := Lib.hid (ownsRow_later HO2.out hg)
            have HSC := Lib.hid hg.size
            clear hg hown
            obtain ⟨ov, hov⟩ : ∃ ov, ov = Value.slice (some ⟨bo, 0, none⟩) (f + 1) co := ⟨_, rfl⟩
            have HO0 : Hid (wC.ownsRow w.heap.size 22 1 ov (f + 1) (fs ++ [.slice (some ⟨bc, 0, none⟩) (j + 1) cu])) := Lib.hid (by rw [hov]; exact (by have h1 := HOC.out; rw [List.length_append, List.length_singleton, ← HFL.out] at h1; exact h1))
            rw [← hov]
            have HOV := Lib.hid hov
            clear hov
            go_wp2_with (at_builtin; go_loud (refine append_row2 rfl _ _ 38 rfl w.heap.size 22 i0 _ 1 24 Try.underlying38 hi0 hz0 hz1 hz2 rfl (by decide) ov (f + 1) (fs ++ [.slice (some ⟨bc, 0, none⟩) (j + 1) cu]) rfl (ownsRow_later HO0.out ((Grows.refl _).al _)) 1 [.slice av (m + 1) cv] _ rfl (rowOne _ _ _ _ rfl rfl) (by unfold maxLen; omega) (by omega) (by have := GC.out.size; rw [World.size_alloc]; omega) ?_; intro v5 w5 hown5 hgr5; have O5 := Lib.hid hown5; have X5 := Lib.hid (own_other (ownsRow_later HO0.out ((Grows.refl _).al _)) (ownsRow_later HC.out ((Grows.refl _).al _)) (by decide) hgr5); have G5 : Hid (Grows w w5) := Lib.hid (Below.grown (GC.out.al _) hgr5 (by have := GC.out.size; rw [World.size_alloc]; omega) (fun kk hkk => (own_lt HO0.out kk hkk).1)); have S5 := Lib.hid hgr5.size; have F5 := Lib.hid ((HPC.out.grows ((Grows.refl _).al _)).other (ownsRow_later HO0.out ((Grows.refl _).al _)) (by decide) hgr5); rw [HOV.out]; clear hown5 hgr5))
            exact ⟨⟨k + 1, v5, (s.1 ++ [s.2], q), rfl, by simp, by omega, Lib.hid (by rw [HFT.out, HJS.out]), Lib.hid (.inr ⟨fs ++ [.slice (some ⟨bc, 0, none⟩) (j + 1) cu], .slice av (m + 1) cv, wB.heap.size, m, HM.out, by have h1 := O5.out; rw [List.length_append, List.length_append, List.length_singleton, List.length_singleton, ← HFL.out]; exact h1, F5.out, X5.out, G.out.size, by have h1 := S5.out; have h2 := HSC.out; rw [World.size_alloc] at h1; omega⟩), Lib.hid (by simp only [HM.out]; omega), Lib.hid (by have := HL1.out; simp only [List.length_append, List.length_singleton]; omega), G5⟩, by simp only [intOf]; omega⟩
    · have hkn' : n = k := by omega
      subst hkn'
      have HT : Hid (s = ps.foldl joinS ([], [])) := Lib.hid (by rw [HS.out, List.take_of_length_le (by rw [← HN.out]; exact Nat.le_refl _)])
      have HF : Hid (joinF ps = outS s) := Lib.hid (by unfold joinF; rw [← HT.out])
      go_wp2
      go_ret
      refine ⟨_, rfl, ?_, G.out⟩
      rw [HF.out]
      rcases HJS0.out with ⟨hs2, hs1, rfl⟩ | ⟨fs, x, B, j, hj, hout, hfin, hx, hB1, hB2⟩
      · unfold outS
        rw [if_pos hs2, hs1]
        exact ⟨none, 0, rfl, Nat.le_refl _, fun _ => rfl, fun i q hq => by simp at hq⟩
      · unfold outS
        rw [if_neg (by intro h; rw [h] at hj; simp at hj)]
        have hj2 := HL2.out
        exact rows_own hout ((hfin.more hB2).push (own_one hx).1 (by omega) (by rw [hj]; exact own_base hx (Nat.zero_le _)) (fun k hk => (own_lt hx k hk).2))
end Go.Proofs.Ytlkihbehiojimaa
