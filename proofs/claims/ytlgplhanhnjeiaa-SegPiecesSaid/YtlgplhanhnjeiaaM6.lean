/-
  Layer 2: the library's merge in place: in general
-/
import Derived.Test.YtlgplhanhnjeiaaM5
namespace Go.Proofs.Ytlgplhanhnjeiaa
open Go.RowKit Go.Tab Go.Sort
theorem SrtB.congr {a b : Nat} {d d' : Array CutB} (h : SrtB a b d) (he : ∀ x, a ≤ x → x < b → d'[x]! = d[x]!) : SrtB a b d' := fun i j hi hij hj => by
  rw [he i hi (by omega), he j (by omega) hj]; exact h i j hi hij hj
def loF (a m b : Nat) : Nat := if (a + b) / 2 < m then (a + b) / 2 + m - b else a
def hiF (a m b : Nat) : Nat := if (a + b) / 2 < m then (a + b) / 2 else m
theorem rng {a m b : Nat} (h1 : a < m) (h2 : m < b) : Rng a m b (loF a m b) (hiF a m b) ((a + b) / 2 + m - 1) ∧ (loF a m b = a ∨ (a + b) / 2 + m - loF a m b = b) ∧ (hiF a m b = m ∨ (a + b) / 2 + m - hiF a m b = m) := by
  unfold loF hiF
  by_cases h : (a + b) / 2 < m
  · rw [if_pos h, if_pos h]
    refine ⟨⟨by omega, by omega, by omega, fun c hc1 hc2 => by omega⟩, .inr (by omega), .inr (by omega)⟩
  · rw [if_neg h, if_neg h]
    refine ⟨⟨by omega, by omega, by omega, fun c hc1 hc2 => by omega⟩, .inl rfl, .inl rfl⟩
theorem srch_bd {a m b s : Nat} (h1 : a < m) (h2 : m < b) (hs1 : loF a m b ≤ s) (hs2 : s ≤ hiF a m b) : a ≤ s ∧ s ≤ m ∧ m ≤ (a + b) / 2 + m - s ∧ (a + b) / 2 + m - s ≤ b ∧ s < (a + b) / 2 + m ∧ s + ((a + b) / 2 + m - s - m) = (a + b) / 2 := by
  unfold loF at hs1
  unfold hiF at hs2
  by_cases h : (a + b) / 2 < m
  · rw [if_pos h] at hs1 hs2; omega
  · rw [if_neg h] at hs1 hs2; omega

set_option maxRecDepth 100000 in
set_option maxHeartbeats 8000000 in
theorem symG (g N cap a m b B : Nat) (d : Array CutB) (w : World) (h : w.ownsRow B 61 4 (.slice (some ⟨g, 0, none⟩) N cap) N (rowB d)) (hN : d.size = N) (hm : N ≤ 1000000) (ham : a + 1 < m) (hmb : m + 1 < b) (hb : b ≤ N) (S1 : SrtB a m d) (S2 : SrtB m b d)
    (IH : ∀ (a' m' b' : Nat) (d' : Array CutB) (w' : World), b' - a' < b - a → a' < m' → m' < b' → b' ≤ N → w'.ownsRow B 61 4 (.slice (some ⟨g, 0, none⟩) N cap) N (rowB d') → d'.size = N → SrtB a' m' d' → SrtB m' b' d' → SymC g N cap a' m' b' B d' w') : SymC g N cap a m b B d w := by
  have IH' := Lib.hid IH
  unfold SymC at IH' ⊢
  have H := Lib.hid h
  have HN := Lib.hid hN
  have HS1 := Lib.hid S1
  have HS2 := Lib.hid S2
  have hz : ((m : Int) - (a : Int) == 1) = false := by simp; omega
  have hz' : ((b : Int) - (m : Int) == 1) = false := by simp; omega
  obtain ⟨RNG0, hlo0, hhi0⟩ := rng (show a < m by omega) (show m < b by omega)
  have RNG := Lib.hid RNG0
  have HLO := Lib.hid hlo0
  have HHI := Lib.hid hhi0
  have HBD := Lib.hid (fun s h1 h2 => srch_bd (s := s) (show a < m by omega) (show m < b by omega) h1 h2)
  have HL : Hid (loF a m b = if (a + b) / 2 < m then (a + b) / 2 + m - b else a) := Lib.hid rfl
  have HH : Hid (hiF a m b = if (a + b) / 2 < m then (a + b) / 2 else m) := Lib.hid rfl
  clear h hN S1 S2 IH RNG0 hlo0 hhi0
  generalize loF a m b = lo at *
  generalize hiF a m b = hi at *
  have hsum0 : 0 ≤ (a : Int) + (b : Int) := by omega
  have hsum : (a : Int) + (b : Int) < 2000001 := by omega
  go_enter Try.func45, Try.ntmps45
  go_upto_if 140 with (fail)
  obtain ⟨mid, hmid⟩ : ∃ x, x = (a + b) / 2 := ⟨_, rfl⟩
  have hmz : ((a : Int) + (b : Int)) / 2 = (mid : Int) := by omega
  rw [← hmid] at RNG HLO HHI HBD HL HH
  simp only [hmz]
  have hmb2 : mid < b := by omega
  have hma2 : a < mid := by omega
  have hge : mid < m → b ≤ mid + m := fun h => by omega
  clear hsum hsum0 hmz hmid
  go_cut [20, 21] (fun p q wx => p = .int .i64 (lo : Int) ∧ q = .int .i64 (hi : Int) ∧ wx = w)
  case first =>
    by_cases hc : mid < m
    · have hcz : (mid : Int) < (m : Int) := by omega
      have hge := hge hc
      have e1 := HL.out.trans (if_pos hc)
      have e2 := HH.out.trans (if_pos hc)
      go_wp2_with fail
      go_meet
      exact ⟨by congr 1; omega, by congr 1; omega, rfl⟩
    · have hcz : ¬ (mid : Int) < (m : Int) := by omega
      have e1 := HL.out.trans (if_neg hc)
      have e2 := HH.out.trans (if_neg hc)
      go_wp2_with fail
      go_meet
      exact ⟨by congr 1; omega, by congr 1; omega, rfl⟩
  case rest =>
    obtain ⟨rfl, rfl, rfl⟩ := hcut
    clear hge
    go_wp2_with fail
    obtain ⟨P, hP⟩ : ∃ P, P = mid + m - 1 := ⟨_, rfl⟩
    have hPz : (mid : Int) + (m : Int) - 1 = (P : Int) := by omega
    rw [← hP] at RNG
    simp only [hPz]
    have HP := Lib.hid hP
    clear hP hPz
    go_loopw [20, 21] (fun vi vj wr => ∃ (i j : Nat), vi = .int .i64 (i : Int) ∧ vj = .int .i64 (j : Int) ∧ Hid (Srch a m b lo hi P i j d) ∧ Hid (wr.ownsRow B 61 4 (.slice (some ⟨g, 0, none⟩) N cap) N (rowB d)) ∧ Hid (wc.grownBy wr (some g))) (fun i j _ => (intOf j).toNat - (intOf i).toNat)
    case atStart => exact ⟨lo, hi, rfl, rfl, Lib.hid ⟨Nat.le_refl _, RNG.out.lo_hi, Nat.le_refl _, fun c h1 h2 => by omega, fun c h1 h2 => by omega⟩, H, Lib.hid (grown_self _ _)⟩
    case round =>
      obtain ⟨i, j, rfl, rfl, HSR, HO, HG⟩ := hrel
      by_cases hlt : i < j
      · have hltz : (i : Int) < (j : Int) := by omega
        obtain ⟨H, hH⟩ : ∃ H, H = (i + j) / 2 := ⟨_, rfl⟩
        have hiH : i ≤ H := by omega
        have hHj : H < j := by omega
        have hr := RNG.out.p_lo H (by have := HSR.out.lo_le; omega) (by have := HSR.out.le_hi; omega)
        have hHm : j ≤ m := by have := HSR.out.le_hi; have := RNG.out.hi_m; omega
        have hsum : ((i : Int) + (j : Int)) < 2000001 := by omega
        have hsum0 : 0 ≤ (i : Int) + (j : Int) := by omega
        go_upto_region 35 with (fail)
        have hHz : ((i : Int) + (j : Int)) / 2 = (H : Int) := by omega
        rw [hHz]
        obtain ⟨Q, hQ0⟩ : ∃ Q, Q = P - H := ⟨_, rfl⟩
        have hQ : (P : Int) - (H : Int) = (Q : Int) := by omega
        have hQ1 : (Q : Int) < (N : Int) := by omega
        have hQ2 : (0 : Int) ≤ (Q : Int) := by omega
        have hQN : Q < N := by omega
        have HWQ : Hid (IntKind.i64.wrap (Q : Int) = (Q : Int)) := Lib.hid (by rw [IntKind.wrap_i64]; omega)
        have hHN : H < N := by omega
        have HQ := Lib.hid hQ0
        have HU := Lib.hid (fun (hc : ltB d[Q]! d[H]! = false) => HSR.out.up RNG.out (by rw [HN.out]; exact hb) HS1.out HS2.out hiH hHj (by rw [← hQ0]; exact hc))
        have HDN := Lib.hid (fun (hc : ltB d[Q]! d[H]! = true) => HSR.out.down RNG.out (by rw [HN.out]; exact hb) HS1.out HS2.out hiH hHj (by rw [← hQ0]; exact hc))
        clear hH hHz hsum hsum0 hr hQ0
        have hH1 : (H : Int) < (N : Int) := by omega
        have hH2 : (0 : Int) ≤ (H : Int) := by omega
        obtain ⟨⟨⟨⟨pa, pb⟩, pf, pw⟩, hpo⟩, hp⟩ : ∃ c, c = d[Q]! := ⟨_, rfl⟩
        obtain ⟨⟨⟨⟨qa, qb⟩, qf, qw⟩, hqo⟩, hq⟩ : ∃ c, c = d[H]! := ⟨_, rfl⟩
        have HF : Hid (∀ w', Grows wr w' → (w'.cell? ⟨g, Q * 4, none⟩ = some (.int .i64 pa) ∧ w'.cell? ⟨g, Q * 4 + 1, none⟩ = some (.int .i64 pb) ∧ w'.cell? ⟨g, Q * 4 + 2, none⟩ = some (.int .i64 pf) ∧ w'.cell? ⟨g, Q * 4 + 3, none⟩ = some (.int .i64 pw)) ∧ w'.cell? ⟨g, H * 4, none⟩ = some (.int .i64 qa) ∧ w'.cell? ⟨g, H * 4 + 1, none⟩ = some (.int .i64 qb) ∧ w'.cell? ⟨g, H * 4 + 2, none⟩ = some (.int .i64 qf) ∧ w'.cell? ⟨g, H * 4 + 3, none⟩ = some (.int .i64 qw)) := Lib.hid (fun w' hg' => by
          have hO := ownsRow_grows HO.out hg'
          have k1 := ownB_cells hO HN.out (i := Q) (by omega)
          have k2 := ownB_cells hO HN.out (i := H) (by omega)
          rw [← hp] at k1
          rw [← hq] at k2
          exact ⟨k1, k2⟩)
        have HC := Lib.hid (fun w => closureR ⟨((pa, pb), pf, pw), hpo⟩ ⟨((qa, qb), qf, qw), hqo⟩ w)
        have HLT : Hid (ltB d[Q]! d[H]! = decide (cmpB ⟨((pa, pb), pf, pw), hpo⟩ ⟨((qa, qb), qf, qw), hqo⟩ < 0)) := Lib.hid (by rw [← hp, ← hq]; rfl)
        clear hp hq
        unfold encB encC at HC
        simp only at HC
        generalize cmpB ⟨((pa, pb), pf, pw), hpo⟩ ⟨((qa, qb), qf, qw), hqo⟩ = c at HC HLT
        clear hpo hqo
        go_wp2_with fail
        refine wp_region_tab 14 (by kernel_rfl) (by kernel_rfl) ?_
        intro w0 hw0 hg1 hg1'
        simp only [List.take_succ_cons, List.take_zero, List.drop_succ_cons, List.drop_zero]
        refine tab_val (fnC) (fun r w1 hr hg hA => by obtain ⟨q0, -⟩ := hA; have q0e : r (.tmp 4) = fnC := q0; exact ⟨rfl, by simp [go_sem, q0e]⟩) ?_
        refine tab_val (.slice (some ⟨g, 0, none⟩) N cap) (fun r w1 hr hg hA => by obtain ⟨q0, -⟩ := hA; have q0e : r (.tmp 0) = .slice (some ⟨g, 0, none⟩) N cap := q0; exact ⟨rfl, by simp [go_sem, q0e]⟩) ?_
        refine tab_val (.int .i64 (P : Int)) (fun r w1 hr hg hA => by obtain ⟨q0, -⟩ := hA; have q0e : r (.tmp 22) = .int .i64 (P : Int) := q0; exact ⟨rfl, by simp [go_sem, q0e]⟩) ?_
        refine tab_val (.int .i64 (H : Int)) (fun r w1 hr hg hA => by obtain ⟨q0, -⟩ := hA; have q0e : r (.tmp 23) = .int .i64 (H : Int) := q0; exact ⟨rfl, by simp [go_sem, q0e]⟩) ?_
        refine tab_val (.int .i64 (Q : Int)) (fun r w1 hr hg hA => by obtain ⟨⟨_, q0⟩, ⟨_, q1⟩, -⟩ := hA; have q0e : r (.tmp 160) = .int .i64 (P : Int) := q0; have q1e : r (.tmp 161) = .int .i64 (H : Int) := q1; exact ⟨rfl, by simp [go_sem, q0e, q1e, hQ, HWQ.out]⟩) ?_
        refine tab_val (.pointer (some ⟨g, Q * 4, none⟩)) (fun r w1 hr hg hA => by obtain ⟨⟨_, q0⟩, ⟨_, q1⟩, -⟩ := hA; have q0e : r (.tmp 159) = .slice (some ⟨g, 0, none⟩) N cap := q0; have q1e : r (.tmp 162) = .int .i64 (Q : Int) := q1; exact ⟨rfl, by simp [go_sem, q0e, q1e, hQ1, hQ2]⟩) ?_
        refine tab_val (.agg #[.int .i64 pa, .int .i64 pb, .int .i64 pf, .int .i64 pw]) (fun r w1 hr hg hA => by obtain ⟨⟨_, q0⟩, -⟩ := hA; have q0e : r (.tmp 163) = .pointer (some ⟨g, Q * 4, none⟩) := q0; have hc := HF.out w1 (hg1.trans hg); exact ⟨rfl, by simp [go_sem, q0e, hc]⟩) ?_
        refine tab_val (.slice (some ⟨g, 0, none⟩) N cap) (fun r w1 hr hg hA => by obtain ⟨q0, -⟩ := hA; have q0e : r (.tmp 0) = .slice (some ⟨g, 0, none⟩) N cap := q0; exact ⟨rfl, by simp [go_sem, q0e]⟩) ?_
        refine tab_val (.int .i64 (H : Int)) (fun r w1 hr hg hA => by obtain ⟨q0, -⟩ := hA; have q0e : r (.tmp 23) = .int .i64 (H : Int) := q0; exact ⟨rfl, by simp [go_sem, q0e]⟩) ?_
        refine tab_val (.pointer (some ⟨g, H * 4, none⟩)) (fun r w1 hr hg hA => by obtain ⟨⟨_, q0⟩, ⟨_, q1⟩, -⟩ := hA; have q0e : r (.tmp 165) = .slice (some ⟨g, 0, none⟩) N cap := q0; have q1e : r (.tmp 166) = .int .i64 (H : Int) := q1; exact ⟨rfl, by simp [go_sem, q0e, q1e, hH1, hH2]⟩) ?_
        refine tab_val (.agg #[.int .i64 qa, .int .i64 qb, .int .i64 qf, .int .i64 qw]) (fun r w1 hr hg hA => by obtain ⟨⟨_, q0⟩, -⟩ := hA; have q0e : r (.tmp 167) = .pointer (some ⟨g, H * 4, none⟩) := q0; have hc := HF.out w1 (hg1.trans hg); exact ⟨rfl, by simp [go_sem, q0e, hc]⟩) ?_
        refine tab_call (v := .int .i64 c) (fun w1 hg => HC.out w1) (fun r w1 hr hg hA => by obtain ⟨⟨_, q0⟩, ⟨_, q1⟩, ⟨_, q2⟩, -⟩ := hA; have q0e : r (.tmp 158) = fnC := q0; have q1e : r (.tmp 164) = .agg #[.int .i64 pa, .int .i64 pb, .int .i64 pf, .int .i64 pw] := q1; have q2e : r (.tmp 168) = .agg #[.int .i64 qa, .int .i64 qb, .int .i64 qf, .int .i64 qw] := q2; exact ⟨rfl, by simp [go_sem, hr.func, q0e, q1e, q2e]⟩) ?_
        refine tab_val (.bool (decide (c < 0))) (fun r w1 hr hg hA => by obtain ⟨⟨_, q0⟩, -⟩ := hA; have q0e : r (.tmp 169) = .int .i64 c := q0; exact ⟨rfl, by simp [go_sem, hr.const, q0e]⟩) ?_
        refine tab_val (.bool (!decide (c < 0))) (fun r w1 hr hg hA => by obtain ⟨⟨_, q0⟩, -⟩ := hA; have q0e : r (.tmp 170) = .bool (decide (c < 0)) := q0; exact ⟨rfl, by simp [go_sem, q0e]⟩) ?_
        refine tab_end ?_
        simp only [List.reverse_cons, List.reverse_nil, List.nil_append, List.cons_append, Out, BlockP, forall_eq, forall_const, Act.put, List.setIfInBounds_toArray, List.set_cons_succ, List.set_cons_zero]
        intro wA hgA
        have GA := Lib.hid (hg1.trans hgA)
        clear hg1 hg1' hgA hw0
        have HO2 := Lib.hid (ownsRow_grows HO.out GA.out)
        have HG2 := Lib.hid (grownBy_trans' HG.out (grows_grownBy GA.out (some g)))
        clear HO HG GA HF
        by_cases hc : c < 0
        · have HT : Hid (ltB d[Q]! d[H]! = true) := Lib.hid (HLT.out.trans (decide_eq_true hc))
          have hcb : (!decide (c < 0)) = false := by simp [hc]
          rw [hcb]
          go_wp2_with fail
          exact ⟨⟨i, H, rfl, rfl, Lib.hid (HDN.out HT.out), HO2, HG2⟩, by simp only [intOf]; omega⟩
        · have HT : Hid (ltB d[Q]! d[H]! = false) := Lib.hid (HLT.out.trans (decide_eq_false hc))
          have hcb : (!decide (c < 0)) = true := by simp [hc]
          rw [hcb]
          go_wp2_with fail
          exact ⟨⟨H + 1, j, by simp, rfl, Lib.hid (HU.out HT.out), HO2, HG2⟩, by simp only [intOf]; omega⟩
      · have hij := HSR.out.le
        obtain rfl : i = j := by omega
        have hltz : ¬ (i : Int) < (i : Int) := by omega
        obtain ⟨q1, q2, q3, q4, q5, q6⟩ := HBD.out i HSR.out.lo_le HSR.out.le_hi
        obtain ⟨X1, X2⟩ := Srch.fin (n := mid + m) (by rw [← HP.out]; exact HSR.out) (by rw [← HP.out]; exact RNG.out) (by omega) (by rw [HN.out]; exact hb) HS1.out HS2.out HLO.out HHI.out q3 q4 q5
        have HX := Lib.hid (fun d' R => q6 ▸ halves (d' := d') q1 q2 q3 q4 (by rw [HN.out]; exact hb) HS1.out HS2.out R X1 X2)
        obtain ⟨en, hen⟩ : ∃ x, x = mid + m - i := ⟨_, rfl⟩
        have henz : (mid : Int) + (m : Int) - (i : Int) = (en : Int) := by omega
        rw [← hen] at HX q3 q4 q6
        clear X1 X2 hen HSR HBD HLO HHI RNG HL HH HP
        go_upto_region 39 with (fail)
        clear H
        have hRN := Lib.hid (Rotd.none (s := i) (m := m) (e := en) q2 q3)
        by_cases hc1 : i < m ∧ m < en
        · obtain ⟨hz1, hz2⟩ := hc1
          have hz1z : (i : Int) < (m : Int) := by omega
          have hz2z : (m : Int) < (en : Int) := by omega
          have HRT := Lib.hid (rotate_any g N cap i m en B d wr HO.out HN.out hm hz1 hz2 (by omega))
          go_wp2_with fail
          refine HRT.out.mono ?_
          rintro _ w1 ⟨rfl, d1, hR, hO1, hg1⟩
          have HV := Lib.hid (HX.out d1 hR)
          have HPR := Lib.hid (permIn_mono _ _ i en a b q1 q4 (by rw [HN.out]; exact hb) hR.perm)
          have HD1 := Lib.hid (hR.size.trans HN.out)
          have HO1 := Lib.hid hO1
          have HG1 := Lib.hid (grownBy_trans' HG.out hg1)
          clear hR hO1 hg1 HRT
          go_upto_region 41 with (fail)
          by_cases hc2 : a < i ∧ i < mid
          · obtain ⟨hz3, hz4⟩ := hc2
            have hz3z : (a : Int) < (i : Int) := by omega
            have hz4z : (i : Int) < (mid : Int) := by omega
            have HI := Lib.hid (IH'.out a i mid d1 w1 (by omega) hz3 hz4 (by omega) HO1.out HD1.out HV.out.h1 HV.out.h2)
            go_wp2_with fail
            refine HI.out.mono ?_
            rintro _ w2 ⟨rfl, d2, ⟨hP1, hS1⟩, hO2, hg2⟩
            have P1 := Lib.hid hP1
            have S1' := Lib.hid hS1
            have HO2 := Lib.hid hO2
            have HG2 := Lib.hid (grownBy_trans' HG1.out hg2)
            clear hP1 hS1 hO2 hg2 HI
            go_upto_region 43 with (fail)
            by_cases hc3 : mid < en ∧ en < b
            · obtain ⟨hz5, hz6⟩ := hc3
              have hz5z : (mid : Int) < (en : Int) := by omega
              have hz6z : (en : Int) < (b : Int) := by omega
              have HT := Lib.hid (SrtB.congr HV.out.h3 (fun x h1 h2 => P1.out.2.1 x (.inr h1)))
              have HT2 := Lib.hid (SrtB.congr HV.out.h4 (fun x h1 h2 => P1.out.2.1 x (.inr (by omega))))
              have HI := Lib.hid (IH'.out mid en b d2 w2 (by omega) hz5 hz6 hb HO2.out (P1.out.1.trans HD1.out) HT.out HT2.out)
              go_wp2_with fail
              refine HI.out.mono ?_
              rintro _ w3 ⟨rfl, d3, ⟨hP2, hS2⟩, hO3, hg3⟩
              have HO3 := Lib.hid hO3
              clear HI hO3
              go_wp2_with fail
              go_end0
              obtain ⟨hF1, hF2⟩ := whole (by omega) (by omega) (by rw [HD1.out]; exact hb) HV.out.cross P1.out S1'.out hP2 hS2
              exact ⟨rfl, d3, ⟨permIn_trans _ _ _ _ _ HPR.out hF1, hF2⟩, HO3.out, grownBy_trans' HG2.out hg3⟩
            · have HT := Lib.hid (SrtB.congr HV.out.h3 (fun x h1 h2 => P1.out.2.1 x (.inr h1)))
              have HT2 := Lib.hid (SrtB.congr HV.out.h4 (fun x h1 h2 => P1.out.2.1 x (.inr (by omega))))
              have hS2 := SrtB.glue HT.out HT2.out (by omega)
              obtain ⟨hF1, hF2⟩ := whole (by omega) (by omega) (by rw [HD1.out]; exact hb) HV.out.cross P1.out S1'.out (permIn_refl _ _ _) hS2
              have HFF := Lib.hid (And.intro (permIn_trans _ _ _ _ _ HPR.out hF1) hF2)
              clear hF1 hF2 hS2
              by_cases hy : mid < en
              · have hy1 : (mid : Int) < (en : Int) := by omega
                have hy2 : ¬ (en : Int) < (b : Int) := by omega
                go_wp2_with fail
                go_end0
                exact ⟨rfl, d2, HFF.out, HO2.out, HG2.out⟩
              · have hy1 : ¬ (mid : Int) < (en : Int) := by omega
                go_wp2_with fail
                go_end0
                exact ⟨rfl, d2, HFF.out, HO2.out, HG2.out⟩

          · have P1 := Lib.hid (permIn_refl d1 a mid)
            have S1' := Lib.hid (SrtB.glue HV.out.h1 HV.out.h2 (by omega))
            obtain ⟨d2, hd2⟩ : ∃ d2, d2 = d1 := ⟨_, rfl⟩
            have HO2 := HO1
            have HG2 := HG1
            rw [← hd2] at S1' HO2
            have P1 : Hid (PermIn a mid d1 d2) := Lib.hid (by rw [hd2]; exact P1.out)
            clear hd2
            by_cases hy0 : a < i
            · have hy01 : (a : Int) < (i : Int) := by omega
              have hy02 : ¬ (i : Int) < (mid : Int) := by omega
              go_upto_region 43 with (fail)
              by_cases hc3 : mid < en ∧ en < b
              · obtain ⟨hz5, hz6⟩ := hc3
                have hz5z : (mid : Int) < (en : Int) := by omega
                have hz6z : (en : Int) < (b : Int) := by omega
                have HT := Lib.hid (SrtB.congr HV.out.h3 (fun x h1 h2 => P1.out.2.1 x (.inr h1)))
                have HT2 := Lib.hid (SrtB.congr HV.out.h4 (fun x h1 h2 => P1.out.2.1 x (.inr (by omega))))
                have HI := Lib.hid (IH'.out mid en b d2 w1 (by omega) hz5 hz6 hb HO2.out (P1.out.1.trans HD1.out) HT.out HT2.out)
                go_wp2_with fail
                refine HI.out.mono ?_
                rintro _ w3 ⟨rfl, d3, ⟨hP2, hS2⟩, hO3, hg3⟩
                have HO3 := Lib.hid hO3
                clear HI hO3
                go_wp2_with fail
                go_end0
                obtain ⟨hF1, hF2⟩ := whole (by omega) (by omega) (by rw [HD1.out]; exact hb) HV.out.cross P1.out S1'.out hP2 hS2
                exact ⟨rfl, d3, ⟨permIn_trans _ _ _ _ _ HPR.out hF1, hF2⟩, HO3.out, grownBy_trans' HG2.out hg3⟩
              · have HT := Lib.hid (SrtB.congr HV.out.h3 (fun x h1 h2 => P1.out.2.1 x (.inr h1)))
                have HT2 := Lib.hid (SrtB.congr HV.out.h4 (fun x h1 h2 => P1.out.2.1 x (.inr (by omega))))
                have hS2 := SrtB.glue HT.out HT2.out (by omega)
                obtain ⟨hF1, hF2⟩ := whole (by omega) (by omega) (by rw [HD1.out]; exact hb) HV.out.cross P1.out S1'.out (permIn_refl _ _ _) hS2
                have HFF := Lib.hid (And.intro (permIn_trans _ _ _ _ _ HPR.out hF1) hF2)
                clear hF1 hF2 hS2
                by_cases hy : mid < en
                · have hy1 : (mid : Int) < (en : Int) := by omega
                  have hy2 : ¬ (en : Int) < (b : Int) := by omega
                  go_wp2_with fail
                  go_end0
                  exact ⟨rfl, d2, HFF.out, HO2.out, HG2.out⟩
                · have hy1 : ¬ (mid : Int) < (en : Int) := by omega
                  go_wp2_with fail
                  go_end0
                  exact ⟨rfl, d2, HFF.out, HO2.out, HG2.out⟩

            · have hy01 : ¬ (a : Int) < (i : Int) := by omega
              go_upto_region 43 with (fail)
              by_cases hc3 : mid < en ∧ en < b
              · obtain ⟨hz5, hz6⟩ := hc3
                have hz5z : (mid : Int) < (en : Int) := by omega
                have hz6z : (en : Int) < (b : Int) := by omega
                have HT := Lib.hid (SrtB.congr HV.out.h3 (fun x h1 h2 => P1.out.2.1 x (.inr h1)))
                have HT2 := Lib.hid (SrtB.congr HV.out.h4 (fun x h1 h2 => P1.out.2.1 x (.inr (by omega))))
                have HI := Lib.hid (IH'.out mid en b d2 w1 (by omega) hz5 hz6 hb HO2.out (P1.out.1.trans HD1.out) HT.out HT2.out)
                go_wp2_with fail
                refine HI.out.mono ?_
                rintro _ w3 ⟨rfl, d3, ⟨hP2, hS2⟩, hO3, hg3⟩
                have HO3 := Lib.hid hO3
                clear HI hO3
                go_wp2_with fail
                go_end0
                obtain ⟨hF1, hF2⟩ := whole (by omega) (by omega) (by rw [HD1.out]; exact hb) HV.out.cross P1.out S1'.out hP2 hS2
                exact ⟨rfl, d3, ⟨permIn_trans _ _ _ _ _ HPR.out hF1, hF2⟩, HO3.out, grownBy_trans' HG2.out hg3⟩
              · have HT := Lib.hid (SrtB.congr HV.out.h3 (fun x h1 h2 => P1.out.2.1 x (.inr h1)))
                have HT2 := Lib.hid (SrtB.congr HV.out.h4 (fun x h1 h2 => P1.out.2.1 x (.inr (by omega))))
                have hS2 := SrtB.glue HT.out HT2.out (by omega)
                obtain ⟨hF1, hF2⟩ := whole (by omega) (by omega) (by rw [HD1.out]; exact hb) HV.out.cross P1.out S1'.out (permIn_refl _ _ _) hS2
                have HFF := Lib.hid (And.intro (permIn_trans _ _ _ _ _ HPR.out hF1) hF2)
                clear hF1 hF2 hS2
                by_cases hy : mid < en
                · have hy1 : (mid : Int) < (en : Int) := by omega
                  have hy2 : ¬ (en : Int) < (b : Int) := by omega
                  go_wp2_with fail
                  go_end0
                  exact ⟨rfl, d2, HFF.out, HO2.out, HG2.out⟩
                · have hy1 : ¬ (mid : Int) < (en : Int) := by omega
                  go_wp2_with fail
                  go_end0
                  exact ⟨rfl, d2, HFF.out, HO2.out, HG2.out⟩

        · have hR := hRN.out (by omega) d
          obtain ⟨d1, hd1⟩ : ∃ d1, d1 = d := ⟨_, rfl⟩
          have HV := Lib.hid (HX.out d1 (by rw [hd1]; exact hR))
          have HPR : Hid (PermIn a b d d1) := Lib.hid (by rw [hd1]; exact permIn_refl _ _ _)
          have HD1 : Hid (d1.size = N) := Lib.hid (by rw [hd1]; exact HN.out)
          have HO1 := HO
          have HG1 := HG
          rw [← hd1] at HO1
          clear hR hd1
          by_cases hx0 : i < m
          · have hx01 : (i : Int) < (m : Int) := by omega
            have hx02 : ¬ (m : Int) < (en : Int) := by omega
            go_upto_region 41 with (fail)
            by_cases hc2 : a < i ∧ i < mid
            · obtain ⟨hz3, hz4⟩ := hc2
              have hz3z : (a : Int) < (i : Int) := by omega
              have hz4z : (i : Int) < (mid : Int) := by omega
              have HI := Lib.hid (IH'.out a i mid d1 wr (by omega) hz3 hz4 (by omega) HO1.out HD1.out HV.out.h1 HV.out.h2)
              go_wp2_with fail
              refine HI.out.mono ?_
              rintro _ w2 ⟨rfl, d2, ⟨hP1, hS1⟩, hO2, hg2⟩
              have P1 := Lib.hid hP1
              have S1' := Lib.hid hS1
              have HO2 := Lib.hid hO2
              have HG2 := Lib.hid (grownBy_trans' HG1.out hg2)
              clear hP1 hS1 hO2 hg2 HI
              go_upto_region 43 with (fail)
              by_cases hc3 : mid < en ∧ en < b
              · obtain ⟨hz5, hz6⟩ := hc3
                have hz5z : (mid : Int) < (en : Int) := by omega
                have hz6z : (en : Int) < (b : Int) := by omega
                have HT := Lib.hid (SrtB.congr HV.out.h3 (fun x h1 h2 => P1.out.2.1 x (.inr h1)))
                have HT2 := Lib.hid (SrtB.congr HV.out.h4 (fun x h1 h2 => P1.out.2.1 x (.inr (by omega))))
                have HI := Lib.hid (IH'.out mid en b d2 w2 (by omega) hz5 hz6 hb HO2.out (P1.out.1.trans HD1.out) HT.out HT2.out)
                go_wp2_with fail
                refine HI.out.mono ?_
                rintro _ w3 ⟨rfl, d3, ⟨hP2, hS2⟩, hO3, hg3⟩
                have HO3 := Lib.hid hO3
                clear HI hO3
                go_wp2_with fail
                go_end0
                obtain ⟨hF1, hF2⟩ := whole (by omega) (by omega) (by rw [HD1.out]; exact hb) HV.out.cross P1.out S1'.out hP2 hS2
                exact ⟨rfl, d3, ⟨permIn_trans _ _ _ _ _ HPR.out hF1, hF2⟩, HO3.out, grownBy_trans' HG2.out hg3⟩
              · have HT := Lib.hid (SrtB.congr HV.out.h3 (fun x h1 h2 => P1.out.2.1 x (.inr h1)))
                have HT2 := Lib.hid (SrtB.congr HV.out.h4 (fun x h1 h2 => P1.out.2.1 x (.inr (by omega))))
                have hS2 := SrtB.glue HT.out HT2.out (by omega)
                obtain ⟨hF1, hF2⟩ := whole (by omega) (by omega) (by rw [HD1.out]; exact hb) HV.out.cross P1.out S1'.out (permIn_refl _ _ _) hS2
                have HFF := Lib.hid (And.intro (permIn_trans _ _ _ _ _ HPR.out hF1) hF2)
                clear hF1 hF2 hS2
                by_cases hy : mid < en
                · have hy1 : (mid : Int) < (en : Int) := by omega
                  have hy2 : ¬ (en : Int) < (b : Int) := by omega
                  go_wp2_with fail
                  go_end0
                  exact ⟨rfl, d2, HFF.out, HO2.out, HG2.out⟩
                · have hy1 : ¬ (mid : Int) < (en : Int) := by omega
                  go_wp2_with fail
                  go_end0
                  exact ⟨rfl, d2, HFF.out, HO2.out, HG2.out⟩

            · have P1 := Lib.hid (permIn_refl d1 a mid)
              have S1' := Lib.hid (SrtB.glue HV.out.h1 HV.out.h2 (by omega))
              obtain ⟨d2, hd2⟩ : ∃ d2, d2 = d1 := ⟨_, rfl⟩
              have HO2 := HO1
              have HG2 := HG1
              rw [← hd2] at S1' HO2
              have P1 : Hid (PermIn a mid d1 d2) := Lib.hid (by rw [hd2]; exact P1.out)
              clear hd2
              by_cases hy0 : a < i
              · have hy01 : (a : Int) < (i : Int) := by omega
                have hy02 : ¬ (i : Int) < (mid : Int) := by omega
                go_upto_region 43 with (fail)
                by_cases hc3 : mid < en ∧ en < b
                · obtain ⟨hz5, hz6⟩ := hc3
                  have hz5z : (mid : Int) < (en : Int) := by omega
                  have hz6z : (en : Int) < (b : Int) := by omega
                  have HT := Lib.hid (SrtB.congr HV.out.h3 (fun x h1 h2 => P1.out.2.1 x (.inr h1)))
                  have HT2 := Lib.hid (SrtB.congr HV.out.h4 (fun x h1 h2 => P1.out.2.1 x (.inr (by omega))))
                  have HI := Lib.hid (IH'.out mid en b d2 wr (by omega) hz5 hz6 hb HO2.out (P1.out.1.trans HD1.out) HT.out HT2.out)
                  go_wp2_with fail
                  refine HI.out.mono ?_
                  rintro _ w3 ⟨rfl, d3, ⟨hP2, hS2⟩, hO3, hg3⟩
                  have HO3 := Lib.hid hO3
                  clear HI hO3
                  go_wp2_with fail
                  go_end0
                  obtain ⟨hF1, hF2⟩ := whole (by omega) (by omega) (by rw [HD1.out]; exact hb) HV.out.cross P1.out S1'.out hP2 hS2
                  exact ⟨rfl, d3, ⟨permIn_trans _ _ _ _ _ HPR.out hF1, hF2⟩, HO3.out, grownBy_trans' HG2.out hg3⟩
                · have HT := Lib.hid (SrtB.congr HV.out.h3 (fun x h1 h2 => P1.out.2.1 x (.inr h1)))
                  have HT2 := Lib.hid (SrtB.congr HV.out.h4 (fun x h1 h2 => P1.out.2.1 x (.inr (by omega))))
                  have hS2 := SrtB.glue HT.out HT2.out (by omega)
                  obtain ⟨hF1, hF2⟩ := whole (by omega) (by omega) (by rw [HD1.out]; exact hb) HV.out.cross P1.out S1'.out (permIn_refl _ _ _) hS2
                  have HFF := Lib.hid (And.intro (permIn_trans _ _ _ _ _ HPR.out hF1) hF2)
                  clear hF1 hF2 hS2
                  by_cases hy : mid < en
                  · have hy1 : (mid : Int) < (en : Int) := by omega
                    have hy2 : ¬ (en : Int) < (b : Int) := by omega
                    go_wp2_with fail
                    go_end0
                    exact ⟨rfl, d2, HFF.out, HO2.out, HG2.out⟩
                  · have hy1 : ¬ (mid : Int) < (en : Int) := by omega
                    go_wp2_with fail
                    go_end0
                    exact ⟨rfl, d2, HFF.out, HO2.out, HG2.out⟩

              · have hy01 : ¬ (a : Int) < (i : Int) := by omega
                go_upto_region 43 with (fail)
                by_cases hc3 : mid < en ∧ en < b
                · obtain ⟨hz5, hz6⟩ := hc3
                  have hz5z : (mid : Int) < (en : Int) := by omega
                  have hz6z : (en : Int) < (b : Int) := by omega
                  have HT := Lib.hid (SrtB.congr HV.out.h3 (fun x h1 h2 => P1.out.2.1 x (.inr h1)))
                  have HT2 := Lib.hid (SrtB.congr HV.out.h4 (fun x h1 h2 => P1.out.2.1 x (.inr (by omega))))
                  have HI := Lib.hid (IH'.out mid en b d2 wr (by omega) hz5 hz6 hb HO2.out (P1.out.1.trans HD1.out) HT.out HT2.out)
                  go_wp2_with fail
                  refine HI.out.mono ?_
                  rintro _ w3 ⟨rfl, d3, ⟨hP2, hS2⟩, hO3, hg3⟩
                  have HO3 := Lib.hid hO3
                  clear HI hO3
                  go_wp2_with fail
                  go_end0
                  obtain ⟨hF1, hF2⟩ := whole (by omega) (by omega) (by rw [HD1.out]; exact hb) HV.out.cross P1.out S1'.out hP2 hS2
                  exact ⟨rfl, d3, ⟨permIn_trans _ _ _ _ _ HPR.out hF1, hF2⟩, HO3.out, grownBy_trans' HG2.out hg3⟩
                · have HT := Lib.hid (SrtB.congr HV.out.h3 (fun x h1 h2 => P1.out.2.1 x (.inr h1)))
                  have HT2 := Lib.hid (SrtB.congr HV.out.h4 (fun x h1 h2 => P1.out.2.1 x (.inr (by omega))))
                  have hS2 := SrtB.glue HT.out HT2.out (by omega)
                  obtain ⟨hF1, hF2⟩ := whole (by omega) (by omega) (by rw [HD1.out]; exact hb) HV.out.cross P1.out S1'.out (permIn_refl _ _ _) hS2
                  have HFF := Lib.hid (And.intro (permIn_trans _ _ _ _ _ HPR.out hF1) hF2)
                  clear hF1 hF2 hS2
                  by_cases hy : mid < en
                  · have hy1 : (mid : Int) < (en : Int) := by omega
                    have hy2 : ¬ (en : Int) < (b : Int) := by omega
                    go_wp2_with fail
                    go_end0
                    exact ⟨rfl, d2, HFF.out, HO2.out, HG2.out⟩
                  · have hy1 : ¬ (mid : Int) < (en : Int) := by omega
                    go_wp2_with fail
                    go_end0
                    exact ⟨rfl, d2, HFF.out, HO2.out, HG2.out⟩

          · have hx01 : ¬ (i : Int) < (m : Int) := by omega
            go_upto_region 41 with (fail)
            by_cases hc2 : a < i ∧ i < mid
            · obtain ⟨hz3, hz4⟩ := hc2
              have hz3z : (a : Int) < (i : Int) := by omega
              have hz4z : (i : Int) < (mid : Int) := by omega
              have HI := Lib.hid (IH'.out a i mid d1 wr (by omega) hz3 hz4 (by omega) HO1.out HD1.out HV.out.h1 HV.out.h2)
              go_wp2_with fail
              refine HI.out.mono ?_
              rintro _ w2 ⟨rfl, d2, ⟨hP1, hS1⟩, hO2, hg2⟩
              have P1 := Lib.hid hP1
              have S1' := Lib.hid hS1
              have HO2 := Lib.hid hO2
              have HG2 := Lib.hid (grownBy_trans' HG1.out hg2)
              clear hP1 hS1 hO2 hg2 HI
              go_upto_region 43 with (fail)
              by_cases hc3 : mid < en ∧ en < b
              · obtain ⟨hz5, hz6⟩ := hc3
                have hz5z : (mid : Int) < (en : Int) := by omega
                have hz6z : (en : Int) < (b : Int) := by omega
                have HT := Lib.hid (SrtB.congr HV.out.h3 (fun x h1 h2 => P1.out.2.1 x (.inr h1)))
                have HT2 := Lib.hid (SrtB.congr HV.out.h4 (fun x h1 h2 => P1.out.2.1 x (.inr (by omega))))
                have HI := Lib.hid (IH'.out mid en b d2 w2 (by omega) hz5 hz6 hb HO2.out (P1.out.1.trans HD1.out) HT.out HT2.out)
                go_wp2_with fail
                refine HI.out.mono ?_
                rintro _ w3 ⟨rfl, d3, ⟨hP2, hS2⟩, hO3, hg3⟩
                have HO3 := Lib.hid hO3
                clear HI hO3
                go_wp2_with fail
                go_end0
                obtain ⟨hF1, hF2⟩ := whole (by omega) (by omega) (by rw [HD1.out]; exact hb) HV.out.cross P1.out S1'.out hP2 hS2
                exact ⟨rfl, d3, ⟨permIn_trans _ _ _ _ _ HPR.out hF1, hF2⟩, HO3.out, grownBy_trans' HG2.out hg3⟩
              · have HT := Lib.hid (SrtB.congr HV.out.h3 (fun x h1 h2 => P1.out.2.1 x (.inr h1)))
                have HT2 := Lib.hid (SrtB.congr HV.out.h4 (fun x h1 h2 => P1.out.2.1 x (.inr (by omega))))
                have hS2 := SrtB.glue HT.out HT2.out (by omega)
                obtain ⟨hF1, hF2⟩ := whole (by omega) (by omega) (by rw [HD1.out]; exact hb) HV.out.cross P1.out S1'.out (permIn_refl _ _ _) hS2
                have HFF := Lib.hid (And.intro (permIn_trans _ _ _ _ _ HPR.out hF1) hF2)
                clear hF1 hF2 hS2
                by_cases hy : mid < en
                · have hy1 : (mid : Int) < (en : Int) := by omega
                  have hy2 : ¬ (en : Int) < (b : Int) := by omega
                  go_wp2_with fail
                  go_end0
                  exact ⟨rfl, d2, HFF.out, HO2.out, HG2.out⟩
                · have hy1 : ¬ (mid : Int) < (en : Int) := by omega
                  go_wp2_with fail
                  go_end0
                  exact ⟨rfl, d2, HFF.out, HO2.out, HG2.out⟩

            · have P1 := Lib.hid (permIn_refl d1 a mid)
              have S1' := Lib.hid (SrtB.glue HV.out.h1 HV.out.h2 (by omega))
              obtain ⟨d2, hd2⟩ : ∃ d2, d2 = d1 := ⟨_, rfl⟩
              have HO2 := HO1
              have HG2 := HG1
              rw [← hd2] at S1' HO2
              have P1 : Hid (PermIn a mid d1 d2) := Lib.hid (by rw [hd2]; exact P1.out)
              clear hd2
              by_cases hy0 : a < i
              · have hy01 : (a : Int) < (i : Int) := by omega
                have hy02 : ¬ (i : Int) < (mid : Int) := by omega
                go_upto_region 43 with (fail)
                by_cases hc3 : mid < en ∧ en < b
                · obtain ⟨hz5, hz6⟩ := hc3
                  have hz5z : (mid : Int) < (en : Int) := by omega
                  have hz6z : (en : Int) < (b : Int) := by omega
                  have HT := Lib.hid (SrtB.congr HV.out.h3 (fun x h1 h2 => P1.out.2.1 x (.inr h1)))
                  have HT2 := Lib.hid (SrtB.congr HV.out.h4 (fun x h1 h2 => P1.out.2.1 x (.inr (by omega))))
                  have HI := Lib.hid (IH'.out mid en b d2 wr (by omega) hz5 hz6 hb HO2.out (P1.out.1.trans HD1.out) HT.out HT2.out)
                  go_wp2_with fail
                  refine HI.out.mono ?_
                  rintro _ w3 ⟨rfl, d3, ⟨hP2, hS2⟩, hO3, hg3⟩
                  have HO3 := Lib.hid hO3
                  clear HI hO3
                  go_wp2_with fail
                  go_end0
                  obtain ⟨hF1, hF2⟩ := whole (by omega) (by omega) (by rw [HD1.out]; exact hb) HV.out.cross P1.out S1'.out hP2 hS2
                  exact ⟨rfl, d3, ⟨permIn_trans _ _ _ _ _ HPR.out hF1, hF2⟩, HO3.out, grownBy_trans' HG2.out hg3⟩
                · have HT := Lib.hid (SrtB.congr HV.out.h3 (fun x h1 h2 => P1.out.2.1 x (.inr h1)))
                  have HT2 := Lib.hid (SrtB.congr HV.out.h4 (fun x h1 h2 => P1.out.2.1 x (.inr (by omega))))
                  have hS2 := SrtB.glue HT.out HT2.out (by omega)
                  obtain ⟨hF1, hF2⟩ := whole (by omega) (by omega) (by rw [HD1.out]; exact hb) HV.out.cross P1.out S1'.out (permIn_refl _ _ _) hS2
                  have HFF := Lib.hid (And.intro (permIn_trans _ _ _ _ _ HPR.out hF1) hF2)
                  clear hF1 hF2 hS2
                  by_cases hy : mid < en
                  · have hy1 : (mid : Int) < (en : Int) := by omega
                    have hy2 : ¬ (en : Int) < (b : Int) := by omega
                    go_wp2_with fail
                    go_end0
                    exact ⟨rfl, d2, HFF.out, HO2.out, HG2.out⟩
                  · have hy1 : ¬ (mid : Int) < (en : Int) := by omega
                    go_wp2_with fail
                    go_end0
                    exact ⟨rfl, d2, HFF.out, HO2.out, HG2.out⟩

              · have hy01 : ¬ (a : Int) < (i : Int) := by omega
                go_upto_region 43 with (fail)
                by_cases hc3 : mid < en ∧ en < b
                · obtain ⟨hz5, hz6⟩ := hc3
                  have hz5z : (mid : Int) < (en : Int) := by omega
                  have hz6z : (en : Int) < (b : Int) := by omega
                  have HT := Lib.hid (SrtB.congr HV.out.h3 (fun x h1 h2 => P1.out.2.1 x (.inr h1)))
                  have HT2 := Lib.hid (SrtB.congr HV.out.h4 (fun x h1 h2 => P1.out.2.1 x (.inr (by omega))))
                  have HI := Lib.hid (IH'.out mid en b d2 wr (by omega) hz5 hz6 hb HO2.out (P1.out.1.trans HD1.out) HT.out HT2.out)
                  go_wp2_with fail
                  refine HI.out.mono ?_
                  rintro _ w3 ⟨rfl, d3, ⟨hP2, hS2⟩, hO3, hg3⟩
                  have HO3 := Lib.hid hO3
                  clear HI hO3
                  go_wp2_with fail
                  go_end0
                  obtain ⟨hF1, hF2⟩ := whole (by omega) (by omega) (by rw [HD1.out]; exact hb) HV.out.cross P1.out S1'.out hP2 hS2
                  exact ⟨rfl, d3, ⟨permIn_trans _ _ _ _ _ HPR.out hF1, hF2⟩, HO3.out, grownBy_trans' HG2.out hg3⟩
                · have HT := Lib.hid (SrtB.congr HV.out.h3 (fun x h1 h2 => P1.out.2.1 x (.inr h1)))
                  have HT2 := Lib.hid (SrtB.congr HV.out.h4 (fun x h1 h2 => P1.out.2.1 x (.inr (by omega))))
                  have hS2 := SrtB.glue HT.out HT2.out (by omega)
                  obtain ⟨hF1, hF2⟩ := whole (by omega) (by omega) (by rw [HD1.out]; exact hb) HV.out.cross P1.out S1'.out (permIn_refl _ _ _) hS2
                  have HFF := Lib.hid (And.intro (permIn_trans _ _ _ _ _ HPR.out hF1) hF2)
                  clear hF1 hF2 hS2
                  by_cases hy : mid < en
                  · have hy1 : (mid : Int) < (en : Int) := by omega
                    have hy2 : ¬ (en : Int) < (b : Int) := by omega
                    go_wp2_with fail
                    go_end0
                    exact ⟨rfl, d2, HFF.out, HO2.out, HG2.out⟩
                  · have hy1 : ¬ (mid : Int) < (en : Int) := by omega
                    go_wp2_with fail
                    go_end0
                    exact ⟨rfl, d2, HFF.out, HO2.out, HG2.out⟩

end Go.Proofs.Ytlgplhanhnjeiaa
