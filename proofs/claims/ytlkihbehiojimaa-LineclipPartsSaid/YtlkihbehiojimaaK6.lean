/-
  Layer 22: whether an edge of a row comes strictly within a box.
-/
import Derived.Test.YtlkihbehiojimaaK5
import Derived.Deep.DeepCutAuto
namespace Go.Proofs.Ytlkihbehiojimaa
open Go.RowKit Go.Tab Go.WideShapes

def edgeM (b : BoxI) (p q : Int × Int) : Bool := !(decide (p.1 = q.1 ∧ p.2 = q.2)) && (mayB p.1 p.2 && mayB q.1 q.2) && entersB p.1 p.2 q.1 q.2 b
abbrev gp (l : List (Int × Int)) (i : Nat) : Int × Int := l.getD i (0, 0)
def anyEdge (b : BoxI) (l : List (Int × Int)) : Bool := (List.range (l.length - 1)).any fun i => edgeM b (gp l i) (gp l (i + 1))
def wideB (b : BoxI) : Bool := b.right && !(decide (b.lx = b.hx) || decide (b.ly = b.hy))
def meetsF (l : List (Int × Int)) (b : BoxI) : Bool := wideB b && anyEdge b l
theorem anyEdge_yes {b : BoxI} {l : List (Int × Int)} {i : Nat} (hi : i + 1 < l.length) (h : edgeM b (gp l i) (gp l (i + 1)) = true) : anyEdge b l = true := List.any_eq_true.2 ⟨i, List.mem_range.2 (by omega), h⟩
theorem anyEdge_no {b : BoxI} {l : List (Int × Int)} (h : ∀ i, i + 1 < l.length → edgeM b (gp l i) (gp l (i + 1)) = false) : anyEdge b l = false := by
  unfold anyEdge
  rw [List.any_eq_false]
  intro i hi
  rw [List.mem_range] at hi
  rw [h i (by omega)]
  simp

theorem box2h {w w1 : World} {x1 y1 x2 y2 : Value} {T1 T2 : TypeId} (h : Grows ((w.alloc (.cells #[x1, y1] T1)).alloc (.cells #[x2, y2] T2)) w1) :
    w1.heap[w.heap.size]? = some (.cells #[x1, y1] T1 (0, 0)) ∧ w1.heap[w.heap.size + 1]? = some (.cells #[x2, y2] T2 (0, 0)) :=
  ⟨h.block ((Grows.alloc _ _).block (heap_new _ _ _ rfl)), h.block (heap_new _ _ _ (by simp only [World.size_alloc]))⟩

set_option maxRecDepth 100000 in
set_option maxHeartbeats 8000000 in
theorem meets_any (u : Value) (l : List (Int × Int)) (b : BoxI) (w : World) (hu : PtsAt w u l) (hn : l.length ≤ 1000) :
    Calls Try.prog 17 #[u, bx b] w (Ret (.bool (meetsF l b)) w) := by
  obtain ⟨a, c, rfl, hnc, _⟩ := hu.shape
  have HU := Lib.hid hu
  obtain ⟨n, hln⟩ : ∃ n, n = l.length := ⟨_, rfl⟩
  rw [← hln] at hn hnc HU ⊢
  have HN := Lib.hid hln
  clear hu hln
  have HR := Lib.hid (boxright_any b)
  obtain ⟨r, hr⟩ : ∃ r, r = b.right := ⟨_, rfl⟩
  rw [← hr] at HR
  have Hr := Lib.hid hr
  clear hr
  have BX : Hid (∀ w', Grows (w.alloc (.cells #[.int .i64 b.lx, .int .i64 b.ly, .int .i64 b.hx, .int .i64 b.hy] 26)) w' →
      w'.cell? ⟨w.heap.size, 0, none⟩ = some (.int .i64 b.lx) ∧ w'.cell? ⟨w.heap.size, 1, none⟩ = some (.int .i64 b.ly) ∧ w'.cell? ⟨w.heap.size, 2, none⟩ = some (.int .i64 b.hx) ∧ w'.cell? ⟨w.heap.size, 3, none⟩ = some (.int .i64 b.hy)) := Lib.hid fun w' hg => cells4 (hg.block (heap_new _ _ _ rfl))
  go_enter Try.func17, Try.ntmps17
  go_wp2_with fail
  refine (HR.out _).mono ?_
  rintro _ w1 ⟨rfl, hg⟩
  have HG := Lib.hid hg
  have Hg := Lib.hid (((Grows.refl w).al _).trans hg)
  clear hg
  cases r with
  | false =>
    have HW : Hid (meetsF l b = false) := Lib.hid (by unfold meetsF wideB; rw [← Hr.out]; rfl)
    go_wp2
    go_ret
    exact ⟨ret_bool HW.out.symm, Hg.out⟩
  | true =>
    obtain ⟨c0, c1, c2, c3⟩ := BX.out _ HG.out
    by_cases hx : b.lx = b.hx
    · have HW : Hid (meetsF l b = false) := Lib.hid (by unfold meetsF wideB; rw [hx]; simp)
      have e1 : (b.lx == b.hx) = true := by rw [beq_iff_eq]; exact hx
      clear hx
      go_wp2
      go_ret
      exact ⟨ret_bool HW.out.symm, Hg.out⟩
    · by_cases hy : b.ly = b.hy
      · have HW : Hid (meetsF l b = false) := Lib.hid (by unfold meetsF wideB; rw [hy]; simp)
        have e1 : (b.lx == b.hx) = false := by rw [beq_eq_false_iff_ne]; exact hx
        have e2 : (b.ly == b.hy) = true := by rw [beq_iff_eq]; exact hy
        clear hx hy
        go_wp2
        go_ret
        exact ⟨ret_bool HW.out.symm, Hg.out⟩
      · have HW : Hid (meetsF l b = anyEdge b l) := Lib.hid (by unfold meetsF wideB; rw [← Hr.out]; simp [hx, hy])
        have HMB : Hid (mayB b.lx b.ly = true ∧ mayB b.hx b.hy = true) := Lib.hid (by have := BoxI.right_iff.1 Hr.out.symm; exact ⟨this.1, this.2.1⟩)
        have e1 : (b.lx == b.hx) = false := by rw [beq_eq_false_iff_ne]; exact hx
        have e2 : (b.ly == b.hy) = false := by rw [beq_eq_false_iff_ne]; exact hy
        clear hx hy
        go_wp2
        clear c0 c1 c2 c3 e1 e2
        go_loopw [5] (fun i wr => ∃ k : Nat, i = .int .i64 (k : Int) ∧ 1 ≤ k ∧ k ≤ n + 1 ∧ (∀ i, i + 1 < k → i + 1 < n → edgeM b (gp l i) (gp l (i + 1)) = false) ∧ Grows w1 wr) (fun i _ => n + 2 - (intOf i).toNat)
        case atStart => exact ⟨1, rfl, Nat.le_refl _, by omega, fun i hi => by omega, Grows.refl _⟩
        case round =>
          obtain ⟨k, rfl, hk1, hkn1, hno, hg⟩ := hrel
          have NO := Lib.hid hno
          have G := Lib.hid hg
          clear hno hg
          by_cases hkn : k < n
          · obtain ⟨j, hj⟩ : ∃ j, k = j + 1 := ⟨k - 1, by omega⟩
            subst hj
            have hjn : j < n := by omega
            obtain ⟨ba, oa, rfl, hba, _, _⟩ := HU.out.at_ (i := j) (by rw [← HN.out]; exact hjn)
            have CP := Lib.hid (fun w' (hg : Grows w w') => (HU.out.grows hg).at_cell (i := j) (by rw [← HN.out]; exact hjn))
            have CQ := Lib.hid (fun w' (hg : Grows w w') => (HU.out.grows hg).at_cell (i := j + 1) (by rw [← HN.out]; exact hkn))
            obtain ⟨p, hp⟩ : ∃ p, p = gp l j := ⟨_, rfl⟩
            obtain ⟨q, hq⟩ : ∃ q, q = gp l (j + 1) := ⟨_, rfl⟩
            have HP := Lib.hid hp
            have HQ := Lib.hid hq
            have hp' : l.getD j (0, 0) = p := hp.symm
            have hq' : l.getD (j + 1) (0, 0) = q := hq.symm
            rw [hp'] at CP
            rw [hq'] at CQ
            clear hp hq hp' hq'
            obtain ⟨px, py⟩ := p
            obtain ⟨qx, qy⟩ := q
            have e0 : (j : Int) + 1 - 1 = (j : Int) := by omega
            have e1 : IntKind.i64.wrap (j : Int) = (j : Int) := IntWalk.i64_in _ (by omega)
            have e2 : ((j : Int) + 1).toNat = j + 1 := by omega
            have i1 : (0 : Int) ≤ (j : Int) := by omega
            have i2 : (j : Int) < (n : Int) := by omega
            have i3 : (0 : Int) ≤ (j : Int) + 1 := by omega
            have i4 : (j : Int) + 1 < (n : Int) := by omega
            obtain ⟨c01, c02⟩ := CP.out wr (Hg.out.trans G.out)
            obtain ⟨c03, c04⟩ := CQ.out wr (Hg.out.trans G.out)
            have hbR : ba < wr.heap.size := by have := (Hg.out.trans G.out).size; omega
            have d0 : ∀ o, ((wr.alloc o).cell? ⟨ba, oa + j * 2, none⟩ = some (.int .i64 px)) := fun o => by rw [World.cell?_alloc_lt _ _ _ hbR]; exact c01
            have f0 : ∀ o o', (((wr.alloc o).alloc o').cell? ⟨ba, oa + j * 2, none⟩ = some (.int .i64 px)) := fun o o' => by rw [World.cell?_alloc_lt _ _ _ (by simp only [World.size_alloc]; omega)]; exact d0 o
            have d1 : ∀ o, ((wr.alloc o).cell? ⟨ba, oa + j * 2 + 1, none⟩ = some (.int .i64 py)) := fun o => by rw [World.cell?_alloc_lt _ _ _ hbR]; exact c02
            have f1 : ∀ o o', (((wr.alloc o).alloc o').cell? ⟨ba, oa + j * 2 + 1, none⟩ = some (.int .i64 py)) := fun o o' => by rw [World.cell?_alloc_lt _ _ _ (by simp only [World.size_alloc]; omega)]; exact d1 o
            have d2 : ∀ o, ((wr.alloc o).cell? ⟨ba, oa + (j + 1) * 2, none⟩ = some (.int .i64 qx)) := fun o => by rw [World.cell?_alloc_lt _ _ _ hbR]; exact c03
            have f2 : ∀ o o', (((wr.alloc o).alloc o').cell? ⟨ba, oa + (j + 1) * 2, none⟩ = some (.int .i64 qx)) := fun o o' => by rw [World.cell?_alloc_lt _ _ _ (by simp only [World.size_alloc]; omega)]; exact d2 o
            have d3 : ∀ o, ((wr.alloc o).cell? ⟨ba, oa + (j + 1) * 2 + 1, none⟩ = some (.int .i64 qy)) := fun o => by rw [World.cell?_alloc_lt _ _ _ hbR]; exact c04
            have f3 : ∀ o o', (((wr.alloc o).alloc o').cell? ⟨ba, oa + (j + 1) * 2 + 1, none⟩ = some (.int .i64 qy)) := fun o o' => by rw [World.cell?_alloc_lt _ _ _ (by simp only [World.size_alloc]; omega)]; exact d3 o
            clear CP CQ
            go_wp2_with fail
            go_region
            · refine (‹∀ (a : Act) (w : World), Code.wp _ _ _ a w → _›) _ _ ?_
              have kk := box2h (w := wr) (x1 := .int .i64 px) (y1 := .int .i64 py) (x2 := .int .i64 qx) (y2 := .int .i64 qy) (T1 := 24) (T2 := 24) (Grows.refl _).dr
              have gg := (((Grows.refl wr).al (.cells #[.int .i64 px, .int .i64 py] 24)).al (.cells #[.int .i64 qx, .int .i64 qy] 24)).dr
              generalize World.drew _ = wS at kk gg ⊢
              obtain ⟨K6', K7'⟩ := kk
              generalize hs6 : wr.heap.size = b6 at K6' K7' ⊢
              generalize hs7 : b6 + 1 = b7 at K7' ⊢
              have K6 := Lib.hid K6'
              have K7 := Lib.hid K7'
              have GS := Lib.hid (G.out.trans gg)
              clear hs6 hs7 K6' K7' gg d0 d1 d2 d3 f0 f1 f2 f3 c01 c02 c03 c04 e0 e1 e2 i1 i2 i3 i4 hbR
              have hok : Hid (edgeM b (gp l j) (gp l (j + 1)) = edgeM b (px, py) (qx, qy)) := Lib.hid (by rw [← HP.out, ← HQ.out])
              obtain ⟨s0, s1, _, _⟩ := cells2 K6.out
              obtain ⟨s2, s3, _, _⟩ := cells2 K7.out
              have CS := Lib.hid (fun w' (hg : Grows wS w') => And.intro (cells2 (hg.block K6.out)) (And.intro (cells2 (hg.block K7.out)) (BX.out w' ((HG.out.trans GS.out).trans hg))))
              have NEXT : Hid (edgeM b (px, py) (qx, qy) = false → ∀ i, i + 1 < j + 1 + 1 → i + 1 < n → edgeM b (gp l i) (gp l (i + 1)) = false) := Lib.hid fun hf i h1 h2 => by
                by_cases hij : i = j
                · rw [hij, hok.out]; exact hf
                · exact NO.out i (by omega) h2
              have YES : Hid (edgeM b (px, py) (qx, qy) = true → meetsF l b = true) := Lib.hid fun ht => by
                rw [HW.out]; exact anyEdge_yes (i := j) (by rw [← HN.out]; exact hkn) (by rw [hok.out]; exact ht)
              clear hok NO
              by_cases hpq : px = qx ∧ py = qy
              · have NX := Lib.hid (NEXT.out (by unfold edgeM; simp [hpq.1, hpq.2]))
                obtain ⟨rfl, rfl⟩ := hpq
                go_wp2
                exact ⟨⟨j + 1 + 1, by simp, by omega, by omega, NX.out, GS.out⟩, by simp only [intOf]; omega⟩
              · have hd : Hid (decide (px = qx ∧ py = qy) = false) := Lib.hid (decide_eq_false hpq)
                obtain ⟨m, hm⟩ : ∃ m, m = (mayB px py && mayB qx qy) := ⟨_, rfl⟩
                have HR2 : Hid (rightB [(px, py), (qx, qy)] = m) := Lib.hid (by rw [hm]; simp [rightB])
                have HM := Lib.hid hm
                clear hm
                rcases (show (¬ px = qx) ∨ (px = qx ∧ ¬ py = qy) by omega) with h1 | ⟨rfl, h1⟩
                · have e1 : (px == qx) = false := by rw [beq_eq_false_iff_ne]; exact h1
                  clear hpq h1
                  go_wp2_with fail
                  refine (right_any _ _ _ (pts_block (l := [(px, py), (qx, qy)]) (heap_new _ _ _ (by simp only [World.size_alloc])) rfl (by simp))).mono ?_
                  rw [HR2.out]
                  rintro _ w4 ⟨rfl, hg⟩
                  have G4 := Lib.hid ((Grows.alloc _ _).trans hg)
                  clear hg s0 s1 s2 s3
                  cases m with
                  | false =>
                    have NX := Lib.hid (NEXT.out (by unfold edgeM; simp only; rw [hd.out, ← HM.out]; rfl))
                    go_wp2
                    exact ⟨⟨j + 1 + 1, by simp, by omega, by omega, NX.out, GS.out.trans G4.out⟩, by simp only [intOf]; omega⟩
                  | true =>
                    obtain ⟨⟨s0, s1, _, _⟩, ⟨s2, s3, _, _⟩, c0, c1, c2, c3⟩ := CS.out _ G4.out
                    have hmm := HM.out.symm
                    rw [Bool.and_eq_true] at hmm
                    have HEN := Lib.hid (fun w => enters_any px py qx qy b w hmm.1 hmm.2 HMB.out.1 HMB.out.2)
                    have HED : Hid (edgeM b (px, py) (qx, qy) = entersB px py qx qy b) := Lib.hid (by unfold edgeM; simp only; rw [hd.out, ← HM.out]; rfl)
                    generalize entersB px py qx qy b = t at HEN HED
                    clear hmm
                    go_wp2_with fail
                    refine (HEN.out _).mono ?_
                    rintro _ w5 ⟨rfl, hg⟩
                    have G5 := Lib.hid (GS.out.trans (G4.out.trans hg))
                    clear hg s0 s1 s2 s3 c0 c1 c2 c3
                    cases t with
                    | false =>
                      have NX := Lib.hid (NEXT.out HED.out)
                      go_wp2
                      exact ⟨⟨j + 1 + 1, by simp, by omega, by omega, NX.out, G5.out⟩, by simp only [intOf]; omega⟩
                    | true =>
                      have YS := Lib.hid (YES.out HED.out)
                      go_wp2
                      go_ret
                      exact ⟨ret_bool YS.out.symm, Hg.out.trans G5.out⟩
                · have e1 : (py == qy) = false := by rw [beq_eq_false_iff_ne]; exact h1
                  clear hpq h1
                  go_wp2_with fail
                  refine (right_any _ _ _ (pts_block (l := [(px, py), (px, qy)]) (heap_new _ _ _ (by simp only [World.size_alloc])) rfl (by simp))).mono ?_
                  rw [HR2.out]
                  rintro _ w4 ⟨rfl, hg⟩
                  have G4 := Lib.hid ((Grows.alloc _ _).trans hg)
                  clear hg s0 s1 s2 s3
                  cases m with
                  | false =>
                    have NX := Lib.hid (NEXT.out (by unfold edgeM; simp only; rw [hd.out, ← HM.out]; rfl))
                    go_wp2
                    exact ⟨⟨j + 1 + 1, by simp, by omega, by omega, NX.out, GS.out.trans G4.out⟩, by simp only [intOf]; omega⟩
                  | true =>
                    obtain ⟨⟨s0, s1, _, _⟩, ⟨s2, s3, _, _⟩, c0, c1, c2, c3⟩ := CS.out _ G4.out
                    have hmm := HM.out.symm
                    rw [Bool.and_eq_true] at hmm
                    have HEN := Lib.hid (fun w => enters_any px py px qy b w hmm.1 hmm.2 HMB.out.1 HMB.out.2)
                    have HED : Hid (edgeM b (px, py) (px, qy) = entersB px py px qy b) := Lib.hid (by unfold edgeM; simp only; rw [hd.out, ← HM.out]; rfl)
                    generalize entersB px py px qy b = t at HEN HED
                    clear hmm
                    go_wp2_with fail
                    refine (HEN.out _).mono ?_
                    rintro _ w5 ⟨rfl, hg⟩
                    have G5 := Lib.hid (GS.out.trans (G4.out.trans hg))
                    clear hg s0 s1 s2 s3 c0 c1 c2 c3
                    cases t with
                    | false =>
                      have NX := Lib.hid (NEXT.out HED.out)
                      go_wp2
                      exact ⟨⟨j + 1 + 1, by simp, by omega, by omega, NX.out, G5.out⟩, by simp only [intOf]; omega⟩
                    | true =>
                      have YS := Lib.hid (YES.out HED.out)
                      go_wp2
                      go_ret
                      exact ⟨ret_bool YS.out.symm, Hg.out.trans G5.out⟩
            · refine (‹∀ (a : Act) (w : World), Code.wp _ _ _ a w → _›) _ _ ?_
              have kk := box2h (w := wr) (x1 := .int .i64 qx) (y1 := .int .i64 qy) (x2 := .int .i64 px) (y2 := .int .i64 py) (T1 := 24) (T2 := 24) (Grows.refl _).dr
              have gg := (((Grows.refl wr).al (.cells #[.int .i64 qx, .int .i64 qy] 24)).al (.cells #[.int .i64 px, .int .i64 py] 24)).dr
              generalize World.drew _ = wS at kk gg ⊢
              obtain ⟨K7', K6'⟩ := kk
              generalize hs7 : wr.heap.size = b7 at K6' K7' ⊢
              generalize hs6 : b7 + 1 = b6 at K6' ⊢
              have K6 := Lib.hid K6'
              have K7 := Lib.hid K7'
              have GS := Lib.hid (G.out.trans gg)
              clear hs6 hs7 K6' K7' gg d0 d1 d2 d3 f0 f1 f2 f3 c01 c02 c03 c04 e0 e1 e2 i1 i2 i3 i4 hbR
              have hok : Hid (edgeM b (gp l j) (gp l (j + 1)) = edgeM b (px, py) (qx, qy)) := Lib.hid (by rw [← HP.out, ← HQ.out])
              obtain ⟨s0, s1, _, _⟩ := cells2 K6.out
              obtain ⟨s2, s3, _, _⟩ := cells2 K7.out
              have CS := Lib.hid (fun w' (hg : Grows wS w') => And.intro (cells2 (hg.block K6.out)) (And.intro (cells2 (hg.block K7.out)) (BX.out w' ((HG.out.trans GS.out).trans hg))))
              have NEXT : Hid (edgeM b (px, py) (qx, qy) = false → ∀ i, i + 1 < j + 1 + 1 → i + 1 < n → edgeM b (gp l i) (gp l (i + 1)) = false) := Lib.hid fun hf i h1 h2 => by
                by_cases hij : i = j
                · rw [hij, hok.out]; exact hf
                · exact NO.out i (by omega) h2
              have YES : Hid (edgeM b (px, py) (qx, qy) = true → meetsF l b = true) := Lib.hid fun ht => by
                rw [HW.out]; exact anyEdge_yes (i := j) (by rw [← HN.out]; exact hkn) (by rw [hok.out]; exact ht)
              clear hok NO
              by_cases hpq : px = qx ∧ py = qy
              · have NX := Lib.hid (NEXT.out (by unfold edgeM; simp [hpq.1, hpq.2]))
                obtain ⟨rfl, rfl⟩ := hpq
                go_wp2
                exact ⟨⟨j + 1 + 1, by simp, by omega, by omega, NX.out, GS.out⟩, by simp only [intOf]; omega⟩
              · have hd : Hid (decide (px = qx ∧ py = qy) = false) := Lib.hid (decide_eq_false hpq)
                obtain ⟨m, hm⟩ : ∃ m, m = (mayB px py && mayB qx qy) := ⟨_, rfl⟩
                have HR2 : Hid (rightB [(px, py), (qx, qy)] = m) := Lib.hid (by rw [hm]; simp [rightB])
                have HM := Lib.hid hm
                clear hm
                rcases (show (¬ px = qx) ∨ (px = qx ∧ ¬ py = qy) by omega) with h1 | ⟨rfl, h1⟩
                · have e1 : (px == qx) = false := by rw [beq_eq_false_iff_ne]; exact h1
                  clear hpq h1
                  go_wp2_with fail
                  refine (right_any _ _ _ (pts_block (l := [(px, py), (qx, qy)]) (heap_new _ _ _ (by simp only [World.size_alloc])) rfl (by simp))).mono ?_
                  rw [HR2.out]
                  rintro _ w4 ⟨rfl, hg⟩
                  have G4 := Lib.hid ((Grows.alloc _ _).trans hg)
                  clear hg s0 s1 s2 s3
                  cases m with
                  | false =>
                    have NX := Lib.hid (NEXT.out (by unfold edgeM; simp only; rw [hd.out, ← HM.out]; rfl))
                    go_wp2
                    exact ⟨⟨j + 1 + 1, by simp, by omega, by omega, NX.out, GS.out.trans G4.out⟩, by simp only [intOf]; omega⟩
                  | true =>
                    obtain ⟨⟨s0, s1, _, _⟩, ⟨s2, s3, _, _⟩, c0, c1, c2, c3⟩ := CS.out _ G4.out
                    have hmm := HM.out.symm
                    rw [Bool.and_eq_true] at hmm
                    have HEN := Lib.hid (fun w => enters_any px py qx qy b w hmm.1 hmm.2 HMB.out.1 HMB.out.2)
                    have HED : Hid (edgeM b (px, py) (qx, qy) = entersB px py qx qy b) := Lib.hid (by unfold edgeM; simp only; rw [hd.out, ← HM.out]; rfl)
                    generalize entersB px py qx qy b = t at HEN HED
                    clear hmm
                    go_wp2_with fail
                    refine (HEN.out _).mono ?_
                    rintro _ w5 ⟨rfl, hg⟩
                    have G5 := Lib.hid (GS.out.trans (G4.out.trans hg))
                    clear hg s0 s1 s2 s3 c0 c1 c2 c3
                    cases t with
                    | false =>
                      have NX := Lib.hid (NEXT.out HED.out)
                      go_wp2
                      exact ⟨⟨j + 1 + 1, by simp, by omega, by omega, NX.out, G5.out⟩, by simp only [intOf]; omega⟩
                    | true =>
                      have YS := Lib.hid (YES.out HED.out)
                      go_wp2
                      go_ret
                      exact ⟨ret_bool YS.out.symm, Hg.out.trans G5.out⟩
                · have e1 : (py == qy) = false := by rw [beq_eq_false_iff_ne]; exact h1
                  clear hpq h1
                  go_wp2_with fail
                  refine (right_any _ _ _ (pts_block (l := [(px, py), (px, qy)]) (heap_new _ _ _ (by simp only [World.size_alloc])) rfl (by simp))).mono ?_
                  rw [HR2.out]
                  rintro _ w4 ⟨rfl, hg⟩
                  have G4 := Lib.hid ((Grows.alloc _ _).trans hg)
                  clear hg s0 s1 s2 s3
                  cases m with
                  | false =>
                    have NX := Lib.hid (NEXT.out (by unfold edgeM; simp only; rw [hd.out, ← HM.out]; rfl))
                    go_wp2
                    exact ⟨⟨j + 1 + 1, by simp, by omega, by omega, NX.out, GS.out.trans G4.out⟩, by simp only [intOf]; omega⟩
                  | true =>
                    obtain ⟨⟨s0, s1, _, _⟩, ⟨s2, s3, _, _⟩, c0, c1, c2, c3⟩ := CS.out _ G4.out
                    have hmm := HM.out.symm
                    rw [Bool.and_eq_true] at hmm
                    have HEN := Lib.hid (fun w => enters_any px py px qy b w hmm.1 hmm.2 HMB.out.1 HMB.out.2)
                    have HED : Hid (edgeM b (px, py) (px, qy) = entersB px py px qy b) := Lib.hid (by unfold edgeM; simp only; rw [hd.out, ← HM.out]; rfl)
                    generalize entersB px py px qy b = t at HEN HED
                    clear hmm
                    go_wp2_with fail
                    refine (HEN.out _).mono ?_
                    rintro _ w5 ⟨rfl, hg⟩
                    have G5 := Lib.hid (GS.out.trans (G4.out.trans hg))
                    clear hg s0 s1 s2 s3 c0 c1 c2 c3
                    cases t with
                    | false =>
                      have NX := Lib.hid (NEXT.out HED.out)
                      go_wp2
                      exact ⟨⟨j + 1 + 1, by simp, by omega, by omega, NX.out, G5.out⟩, by simp only [intOf]; omega⟩
                    | true =>
                      have YS := Lib.hid (YES.out HED.out)
                      go_wp2
                      go_ret
                      exact ⟨ret_bool YS.out.symm, Hg.out.trans G5.out⟩
          · have HA : Hid (anyEdge b l = false) := Lib.hid (anyEdge_no fun i hi => NO.out i (by rw [← HN.out] at hi; omega) (by rw [HN.out]; exact hi))
            go_wp2
            go_ret
            exact ⟨ret_bool (by rw [HW.out, HA.out]), Hg.out.trans G.out⟩
end Go.Proofs.Ytlkihbehiojimaa
