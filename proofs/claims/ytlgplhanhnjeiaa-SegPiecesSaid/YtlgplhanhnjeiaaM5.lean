/-
  Layer 2: the library's merge in place: a run of one cut
-/
import Derived.Test.YtlgplhanhnjeiaaM4
namespace Go.Proofs.Ytlgplhanhnjeiaa
open Go.RowKit Go.Tab Go.Sort
theorem closureR (x y : CutB) (w : World) : Calls Try.prog 31 #[.agg (encB x).toArray, .agg (encB y).toArray] w (Ret (.int .i64 (cmpB x y)) w) := by
  rw [← cmpB_eq]
  obtain ⟨⟨⟨xa, xb⟩, xf, xw⟩, hx⟩ := x
  obtain ⟨⟨⟨ya, yb⟩, yf, yw⟩, hy⟩ := y
  unfold encB encC cmpC
  simp only
  clear hx hy
  go_enter Try.func31, Try.ntmps31
  go_wp2
  go_ret
  exact ⟨rfl, ((Grows.refl _).al _).al _⟩
theorem Rotd.push {a k : Nat} {d dk : Array CutB} (h : Rotd a (a + 1) (k + 1) d dk) (hak : a ≤ k) (hk : k + 1 < d.size) : Rotd a (a + 1) (k + 1 + 1) d (swp dk k (k + 1)) where
  size := by rw [swp_size]; exact h.size
  at_ x hx := by
    have hs := h.size
    rw [swp_get dk (by omega) (by omega)]
    split
    · rw [h.at_ _ (by omega)]; congr 1; subst_vars; rw [rot_b (by omega) (by omega), rot_b (by omega) (by omega)]; omega
    · split
      · rw [h.at_ _ (by omega)]; congr 1; subst_vars; rw [rot_o (by omega) (by omega) (by omega), rot_a (by omega) (by omega)]; omega
      · rw [h.at_ _ hx]; congr 1
        unfold rotI; repeat' split
        all_goals omega
  perm := permIn_trans _ _ _ _ _ (permIn_mono _ _ a (k + 1) a (k + 1 + 1) (Nat.le_refl _) (by omega) (by omega) h.perm) (swp_permIn _ _ _ _ _ (by omega) (by omega) (by omega) (by omega) (by rw [h.size]; omega))
theorem Rotd.pull {m k : Nat} {d dk : Array CutB} (h : Rotd (k + 1) m (m + 1) d dk) (hkm : k + 1 ≤ m) (hk : m < d.size) : Rotd k m (m + 1) d (swp dk (k + 1) k) where
  size := by rw [swp_size]; exact h.size
  at_ x hx := by
    have hs := h.size
    rw [swp_get dk (by omega) (by omega)]
    split
    · rw [h.at_ _ (by omega)]; congr 1; subst_vars; rw [rot_a (by omega) (by omega), rot_a (by omega) (by omega)]; omega
    · split
      · rw [h.at_ _ (by omega)]; congr 1; subst_vars; rw [rot_o (by omega) (by omega) (by omega), rot_b (by omega) (by omega)]; omega
      · rw [h.at_ _ hx]; congr 1
        unfold rotI; repeat' split
        all_goals omega
  perm := permIn_trans _ _ _ _ _ (permIn_mono _ _ (k + 1) (m + 1) k (m + 1) (by omega) (Nat.le_refl _) (by omega) h.perm) (swp_permIn _ _ _ _ _ (by omega) (by omega) (by omega) (by omega) (by rw [h.size]; omega))
/-- What a merge in place does. -/
def SymC (g N cap a m b B : Nat) (d : Array CutB) (w : World) : Prop :=
  Calls Try.prog 45 #[.slice (some ⟨g, 0, none⟩) N cap, .int .i64 a, .int .i64 m, .int .i64 b, fnC] w fun e w' => e = .returned (.tuple #[]) ∧ ∃ d', (PermIn a b d d' ∧ SrtB a b d') ∧ w'.ownsRow B 61 4 (.slice (some ⟨g, 0, none⟩) N cap) N (rowB d') ∧ w.grownBy w' (some g)

set_option maxRecDepth 100000 in
set_option maxHeartbeats 8000000 in
theorem symA (g N cap a m b B : Nat) (d : Array CutB) (w : World) (h : w.ownsRow B 61 4 (.slice (some ⟨g, 0, none⟩) N cap) N (rowB d)) (hN : d.size = N) (hm : N ≤ 1000000) (ham : m = a + 1) (hmb : m < b) (hb : b ≤ N) (S2 : SrtB m b d) : SymC g N cap a m b B d w := by
  unfold SymC
  have H := Lib.hid h
  have HN := Lib.hid hN
  have HS2 := Lib.hid S2
  clear h hN S2
  have hz : (m : Int) - (a : Int) = 1 := by omega
  go_enter Try.func45, Try.ntmps45
  go_wp2_with fail
  go_loopw [10, 11] (fun vi vj wr => ∃ (i j : Nat), m ≤ i ∧ i ≤ j ∧ j ≤ b ∧ vi = .int .i64 (i : Int) ∧ vj = .int .i64 (j : Int) ∧ Hid (∀ x, m ≤ x → x < i → ltB d[x]! d[a]! = true) ∧ Hid (∀ x, j ≤ x → x < b → ltB d[x]! d[a]! = false) ∧ Hid (wr.ownsRow B 61 4 (.slice (some ⟨g, 0, none⟩) N cap) N (rowB d)) ∧ Hid (w.grownBy wr (some g))) (fun i j _ => (intOf j).toNat - (intOf i).toNat)
  case atStart => exact ⟨m, b, Nat.le_refl _, by omega, Nat.le_refl _, rfl, rfl, Lib.hid (fun x h1 h2 => by omega), Lib.hid (fun x h1 h2 => by omega), H, Lib.hid (grown_self _ _)⟩
  case round =>
    obtain ⟨i, j, hmi, hij, hjb, rfl, rfl, HLO, HHI, HO, HG⟩ := hrel
    by_cases hlt : i < j
    · have hltz : (i : Int) < (j : Int) := by omega
      have hsum : ((i : Int) + (j : Int)) < 2000001 := by omega
      have hsum0 : 0 ≤ (i : Int) + (j : Int) := by omega
      go_upto_region 5 with (fail)
      obtain ⟨H, hH⟩ : ∃ H, H = (i + j) / 2 := ⟨_, rfl⟩
      have hHz : ((i : Int) + (j : Int)) / 2 = (H : Int) := by omega
      rw [hHz]
      have hiH : i ≤ H := by omega
      have hHj : H < j := by omega
      clear hH hHz hsum hsum0
      have hH1 : (H : Int) < (N : Int) := by omega
      have hH2 : (0 : Int) ≤ (H : Int) := by omega
      have ha1 : (a : Int) < (N : Int) := by omega
      have ha2 : (0 : Int) ≤ (a : Int) := by omega
      obtain ⟨⟨⟨⟨pa, pb⟩, pf, pw⟩, hpo⟩, hp⟩ : ∃ c, c = d[H]! := ⟨_, rfl⟩
      obtain ⟨⟨⟨⟨qa, qb⟩, qf, qw⟩, hqo⟩, hq⟩ : ∃ c, c = d[a]! := ⟨_, rfl⟩
      have HF : Hid (∀ w', Grows wr w' → (w'.cell? ⟨g, H * 4, none⟩ = some (.int .i64 pa) ∧ w'.cell? ⟨g, H * 4 + 1, none⟩ = some (.int .i64 pb) ∧ w'.cell? ⟨g, H * 4 + 2, none⟩ = some (.int .i64 pf) ∧ w'.cell? ⟨g, H * 4 + 3, none⟩ = some (.int .i64 pw)) ∧ w'.cell? ⟨g, a * 4, none⟩ = some (.int .i64 qa) ∧ w'.cell? ⟨g, a * 4 + 1, none⟩ = some (.int .i64 qb) ∧ w'.cell? ⟨g, a * 4 + 2, none⟩ = some (.int .i64 qf) ∧ w'.cell? ⟨g, a * 4 + 3, none⟩ = some (.int .i64 qw)) := Lib.hid (fun w' hg' => by
        have hO := ownsRow_grows HO.out hg'
        have k1 := ownB_cells hO HN.out (i := H) (by omega)
        have k2 := ownB_cells hO HN.out (i := a) (by omega)
        rw [← hp] at k1
        rw [← hq] at k2
        exact ⟨k1, k2⟩)
      have HC := Lib.hid (fun w => closureR ⟨((pa, pb), pf, pw), hpo⟩ ⟨((qa, qb), qf, qw), hqo⟩ w)
      have HLT : Hid (ltB d[H]! d[a]! = decide (cmpB ⟨((pa, pb), pf, pw), hpo⟩ ⟨((qa, qb), qf, qw), hqo⟩ < 0)) := Lib.hid (by rw [← hp, ← hq]; rfl)
      clear hp hq
      unfold encB encC at HC
      simp only at HC
      generalize cmpB ⟨((pa, pb), pf, pw), hpo⟩ ⟨((qa, qb), qf, qw), hqo⟩ = c at HC HLT
      clear hpo hqo
      go_wp2_with fail
      refine wp_region_tab 11 (by kernel_rfl) (by kernel_rfl) ?_
      intro w0 hw0 hg1 hg1'
      simp only [List.take_succ_cons, List.take_zero, List.drop_succ_cons, List.drop_zero]
      refine tab_val (fnC) (fun r w1 hr hg hA => by obtain ⟨q0, -⟩ := hA; have q0e : r (.tmp 4) = fnC := q0; exact ⟨rfl, by simp [go_sem, q0e]⟩) ?_
      refine tab_val (.slice (some ⟨g, 0, none⟩) N cap) (fun r w1 hr hg hA => by obtain ⟨q0, -⟩ := hA; have q0e : r (.tmp 0) = .slice (some ⟨g, 0, none⟩) N cap := q0; exact ⟨rfl, by simp [go_sem, q0e]⟩) ?_
      refine tab_val (.int .i64 (H : Int)) (fun r w1 hr hg hA => by obtain ⟨q0, -⟩ := hA; have q0e : r (.tmp 12) = .int .i64 (H : Int) := q0; exact ⟨rfl, by simp [go_sem, q0e]⟩) ?_
      refine tab_val (.pointer (some ⟨g, H * 4, none⟩)) (fun r w1 hr hg hA => by obtain ⟨⟨_, q0⟩, ⟨_, q1⟩, -⟩ := hA; have q0e : r (.tmp 41) = .slice (some ⟨g, 0, none⟩) N cap := q0; have q1e : r (.tmp 42) = .int .i64 (H : Int) := q1; exact ⟨rfl, by simp [go_sem, q0e, q1e, hH1, hH2]⟩) ?_
      refine tab_val (.agg #[.int .i64 pa, .int .i64 pb, .int .i64 pf, .int .i64 pw]) (fun r w1 hr hg hA => by obtain ⟨⟨_, q0⟩, -⟩ := hA; have q0e : r (.tmp 43) = .pointer (some ⟨g, H * 4, none⟩) := q0; have hc := HF.out w1 (hg1.trans hg); exact ⟨rfl, by simp [go_sem, q0e, hc]⟩) ?_
      refine tab_val (.slice (some ⟨g, 0, none⟩) N cap) (fun r w1 hr hg hA => by obtain ⟨q0, -⟩ := hA; have q0e : r (.tmp 0) = .slice (some ⟨g, 0, none⟩) N cap := q0; exact ⟨rfl, by simp [go_sem, q0e]⟩) ?_
      refine tab_val (.int .i64 (a : Int)) (fun r w1 hr hg hA => by obtain ⟨q0, -⟩ := hA; have q0e : r (.tmp 1) = .int .i64 (a : Int) := q0; exact ⟨rfl, by simp [go_sem, q0e]⟩) ?_
      refine tab_val (.pointer (some ⟨g, a * 4, none⟩)) (fun r w1 hr hg hA => by obtain ⟨⟨_, q0⟩, ⟨_, q1⟩, -⟩ := hA; have q0e : r (.tmp 45) = .slice (some ⟨g, 0, none⟩) N cap := q0; have q1e : r (.tmp 46) = .int .i64 (a : Int) := q1; exact ⟨rfl, by simp [go_sem, q0e, q1e, ha1, ha2]⟩) ?_
      refine tab_val (.agg #[.int .i64 qa, .int .i64 qb, .int .i64 qf, .int .i64 qw]) (fun r w1 hr hg hA => by obtain ⟨⟨_, q0⟩, -⟩ := hA; have q0e : r (.tmp 47) = .pointer (some ⟨g, a * 4, none⟩) := q0; have hc := HF.out w1 (hg1.trans hg); exact ⟨rfl, by simp [go_sem, q0e, hc]⟩) ?_
      refine tab_call (v := .int .i64 c) (fun w1 hg => HC.out w1) (fun r w1 hr hg hA => by obtain ⟨⟨_, q0⟩, ⟨_, q1⟩, ⟨_, q2⟩, -⟩ := hA; have q0e : r (.tmp 40) = fnC := q0; have q1e : r (.tmp 44) = .agg #[.int .i64 pa, .int .i64 pb, .int .i64 pf, .int .i64 pw] := q1; have q2e : r (.tmp 48) = .agg #[.int .i64 qa, .int .i64 qb, .int .i64 qf, .int .i64 qw] := q2; exact ⟨rfl, by simp [go_sem, hr.func, q0e, q1e, q2e]⟩) ?_
      refine tab_val (.bool (decide (c < 0))) (fun r w1 hr hg hA => by obtain ⟨⟨_, q0⟩, -⟩ := hA; have q0e : r (.tmp 49) = .int .i64 c := q0; exact ⟨rfl, by simp [go_sem, hr.const, q0e]⟩) ?_
      refine tab_end ?_
      simp only [List.reverse_cons, List.reverse_nil, List.nil_append, List.cons_append, Out, BlockP, forall_eq, forall_const, Act.put, List.setIfInBounds_toArray, List.set_cons_succ, List.set_cons_zero]
      intro wA hgA
      have GA := Lib.hid (hg1.trans hgA)
      clear hg1 hg1' hgA hw0
      have HO2 := Lib.hid (ownsRow_grows HO.out GA.out)
      have HG2 := Lib.hid (grownBy_trans' HG.out (grows_grownBy GA.out (some g)))
      clear HO HG GA HF
      by_cases hc : c < 0
      · have HT : Hid (ltB d[H]! d[a]! = true) := Lib.hid (HLT.out.trans (decide_eq_true hc))
        go_wp2_with fail
        exact ⟨⟨H + 1, j, by omega, by omega, hjb, by simp, rfl, Lib.hid (fun x h1 h2 => ltB_le (HS2.out.le h1 (show x ≤ H by omega) (by omega)) HT.out (leB_refl _)), HHI, HO2, HG2⟩, by simp only [intOf]; omega⟩
      · have HT : Hid (ltB d[H]! d[a]! = false) := Lib.hid (HLT.out.trans (decide_eq_false hc))
        go_wp2_with fail
        exact ⟨⟨i, H, hmi, hiH, by omega, rfl, rfl, HLO, Lib.hid (fun x h1 h2 => leB_trans (show leB d[a]! d[H]! from HT.out) (HS2.out.le (by omega) h1 h2)), HO2, HG2⟩, by simp only [intOf]; omega⟩
    · obtain rfl : i = j := by omega
      have hltz : ¬ (i : Int) < (i : Int) := by omega
      go_wp2_with fail
      go_loopw [13] (fun vk wk => ∃ (k : Nat) (dk : Array CutB), a ≤ k ∧ k + 1 ≤ i ∧ vk = .int .i64 (k : Int) ∧ Hid (Rotd a (a + 1) (k + 1) d dk) ∧ Hid (wk.ownsRow B 61 4 (.slice (some ⟨g, 0, none⟩) N cap) N (rowB dk)) ∧ Hid (w.grownBy wk (some g))) (fun k _ => i - (intOf k).toNat)
      case atStart => exact ⟨a, d, Nat.le_refl _, by omega, rfl, Lib.hid (Rotd.none (by omega) (by omega) (.inr rfl) d), HO, HG⟩
      case round =>
        clear HO HG
        obtain ⟨k, dk, hak0, hki, rfl, HR, HO, HG⟩ := hrel
        have HD := Lib.hid (HR.out.size.trans HN.out)
        by_cases hlt2 : k + 1 < i
        · have hltz2 : (k : Int) < (i : Int) - 1 := by omega
          have hak : k < N := by omega
          have hbk : k + 1 < N := by omega
          have hz1 : (k : Int) + 1 < (N : Int) := by omega
          have hz2 : (k : Int) < (N : Int) := by omega
          have ez : ((k : Int) + 1).toNat = k + 1 := by omega
          have HR2 := Lib.hid (HR.out.push hak0 (by rw [HN.out]; omega))
          obtain ⟨x0, x1, x2, x3⟩ := ownB_cells HO.out HD.out hak
          obtain ⟨y0, y1, y2, y3⟩ := ownB_cells HO.out HD.out hbk
          have f0 := HO.out.frozenAt (k * 4)
          have f1 := HO.out.frozenAt (k * 4 + 1)
          have f2 := HO.out.frozenAt (k * 4 + 2)
          have f3 := HO.out.frozenAt (k * 4 + 3)
          have g0 := HO.out.frozenAt ((k + 1) * 4)
          have g1 := HO.out.frozenAt ((k + 1) * 4 + 1)
          have g2 := HO.out.frozenAt ((k + 1) * 4 + 2)
          have g3 := HO.out.frozenAt ((k + 1) * 4 + 3)
          have SW := ownB_swp HO.out HD.out hak hbk
          obtain ⟨⟨⟨⟨pa, pb⟩, pf, pw⟩, hpo⟩, hp⟩ : ∃ c, c = dk[k]! := ⟨_, rfl⟩
          obtain ⟨⟨⟨⟨qa, qb⟩, qf, qw⟩, hqo⟩, hq⟩ : ∃ c, c = dk[(k + 1)]! := ⟨_, rfl⟩
          rw [← hp] at x0 x1 x2 x3
          rw [← hq] at y0 y1 y2 y3
          rw [← hp, ← hq] at SW
          simp only at x0 x1 x2 x3 y0 y1 y2 y3
          have SW := Lib.hid SW
          clear hp hq
          go_wp2_with fail
          go_region
          have OW := Lib.hid (World.ownsRow.drew SW.out.1)
          have GW := Lib.hid (grownBy_trans' (grownBy_trans' HG.out SW.out.2) (grows_grownBy (Grows.refl _).dr _))
          clear x0 x1 x2 x3 y0 y1 y2 y3 f0 f1 f2 f3 g0 g1 g2 g3
          go_wp2
          exact ⟨⟨k + 1, swp dk k (k + 1), by omega, by omega, by simp, HR2, OW, GW⟩, by simp only [intOf]; omega⟩
        · obtain rfl : i = k + 1 := by omega
          have hltz2 : ¬ (k : Int) < ((k + 1 : Nat) : Int) - 1 := by omega
          have HF := Lib.hid (put_front (by omega) (by omega) (by rw [HN.out]; exact hb) (by rw [← ham]; exact HS2.out) HR.out (fun x h1 h2 => HLO.out x (by omega) h2) (fun x h1 h2 => HHI.out x h1 h2))
          go_wp2_with fail
          refine bodyPost_ret (results_none rfl _ _ _) rfl ?_
          exact ⟨rfl, dk, HF.out, HO.out, HG.out⟩

set_option maxRecDepth 100000 in
set_option maxHeartbeats 8000000 in
theorem symB (g N cap a m b B : Nat) (d : Array CutB) (w : World) (h : w.ownsRow B 61 4 (.slice (some ⟨g, 0, none⟩) N cap) N (rowB d)) (hN : d.size = N) (hm : N ≤ 1000000) (ham : a + 1 < m) (hmb : b = m + 1) (hb : b ≤ N) (S1 : SrtB a m d) : SymC g N cap a m b B d w := by
  unfold SymC
  have H := Lib.hid h
  have HN := Lib.hid hN
  have HS1 := Lib.hid S1
  have HMB := Lib.hid hmb
  have hmbz : m + 1 ≤ N := by omega
  have hz : ((m : Int) - (a : Int) == 1) = false := by simp; omega
  have hz' : ((b : Int) - (m : Int) == 1) = true := by simp; omega
  clear h hN S1 hmb
  go_enter Try.func45, Try.ntmps45
  go_wp2_with fail
  go_loopw [14, 15] (fun vi vj wr => ∃ (i j : Nat), a ≤ i ∧ i ≤ j ∧ j ≤ m ∧ vi = .int .i64 (i : Int) ∧ vj = .int .i64 (j : Int) ∧ Hid (∀ x, a ≤ x → x < i → ltB d[m]! d[x]! = false) ∧ Hid (∀ x, j ≤ x → x < m → ltB d[m]! d[x]! = true) ∧ Hid (wr.ownsRow B 61 4 (.slice (some ⟨g, 0, none⟩) N cap) N (rowB d)) ∧ Hid (w.grownBy wr (some g))) (fun i j _ => (intOf j).toNat - (intOf i).toNat)
  case atStart => exact ⟨a, m, Nat.le_refl _, by omega, Nat.le_refl _, rfl, rfl, Lib.hid (fun x h1 h2 => by omega), Lib.hid (fun x h1 h2 => by omega), H, Lib.hid (grown_self _ _)⟩
  case round =>
    obtain ⟨i, j, hmi, hij, hjb, rfl, rfl, HLO, HHI, HO, HG⟩ := hrel
    by_cases hlt : i < j
    · have hltz : (i : Int) < (j : Int) := by omega
      have hsum : ((i : Int) + (j : Int)) < 2000001 := by omega
      have hsum0 : 0 ≤ (i : Int) + (j : Int) := by omega
      go_upto_region 17 with (fail)
      obtain ⟨H, hH⟩ : ∃ H, H = (i + j) / 2 := ⟨_, rfl⟩
      have hHz : ((i : Int) + (j : Int)) / 2 = (H : Int) := by omega
      rw [hHz]
      have hiH : i ≤ H := by omega
      have hHj : H < j := by omega
      clear hH hHz hsum hsum0
      have hH1 : (H : Int) < (N : Int) := by omega
      have hH2 : (0 : Int) ≤ (H : Int) := by omega
      have hm1 : (m : Int) < (N : Int) := by omega
      have hm2 : (0 : Int) ≤ (m : Int) := by omega
      obtain ⟨⟨⟨⟨pa, pb⟩, pf, pw⟩, hpo⟩, hp⟩ : ∃ c, c = d[m]! := ⟨_, rfl⟩
      obtain ⟨⟨⟨⟨qa, qb⟩, qf, qw⟩, hqo⟩, hq⟩ : ∃ c, c = d[H]! := ⟨_, rfl⟩
      have HF : Hid (∀ w', Grows wr w' → (w'.cell? ⟨g, m * 4, none⟩ = some (.int .i64 pa) ∧ w'.cell? ⟨g, m * 4 + 1, none⟩ = some (.int .i64 pb) ∧ w'.cell? ⟨g, m * 4 + 2, none⟩ = some (.int .i64 pf) ∧ w'.cell? ⟨g, m * 4 + 3, none⟩ = some (.int .i64 pw)) ∧ w'.cell? ⟨g, H * 4, none⟩ = some (.int .i64 qa) ∧ w'.cell? ⟨g, H * 4 + 1, none⟩ = some (.int .i64 qb) ∧ w'.cell? ⟨g, H * 4 + 2, none⟩ = some (.int .i64 qf) ∧ w'.cell? ⟨g, H * 4 + 3, none⟩ = some (.int .i64 qw)) := Lib.hid (fun w' hg' => by
        have hO := ownsRow_grows HO.out hg'
        have k1 := ownB_cells hO HN.out (i := m) (by omega)
        have k2 := ownB_cells hO HN.out (i := H) (by omega)
        rw [← hp] at k1
        rw [← hq] at k2
        exact ⟨k1, k2⟩)
      have HC := Lib.hid (fun w => closureR ⟨((pa, pb), pf, pw), hpo⟩ ⟨((qa, qb), qf, qw), hqo⟩ w)
      have HLT : Hid (ltB d[m]! d[H]! = decide (cmpB ⟨((pa, pb), pf, pw), hpo⟩ ⟨((qa, qb), qf, qw), hqo⟩ < 0)) := Lib.hid (by rw [← hp, ← hq]; rfl)
      clear hp hq
      unfold encB encC at HC
      simp only at HC
      generalize cmpB ⟨((pa, pb), pf, pw), hpo⟩ ⟨((qa, qb), qf, qw), hqo⟩ = c at HC HLT
      clear hpo hqo
      go_wp2_with fail
      refine wp_region_tab 12 (by kernel_rfl) (by kernel_rfl) ?_
      intro w0 hw0 hg1 hg1'
      simp only [List.take_succ_cons, List.take_zero, List.drop_succ_cons, List.drop_zero]
      refine tab_val (fnC) (fun r w1 hr hg hA => by obtain ⟨q0, -⟩ := hA; have q0e : r (.tmp 4) = fnC := q0; exact ⟨rfl, by simp [go_sem, q0e]⟩) ?_
      refine tab_val (.slice (some ⟨g, 0, none⟩) N cap) (fun r w1 hr hg hA => by obtain ⟨q0, -⟩ := hA; have q0e : r (.tmp 0) = .slice (some ⟨g, 0, none⟩) N cap := q0; exact ⟨rfl, by simp [go_sem, q0e]⟩) ?_
      refine tab_val (.int .i64 (m : Int)) (fun r w1 hr hg hA => by obtain ⟨q0, -⟩ := hA; have q0e : r (.tmp 2) = .int .i64 (m : Int) := q0; exact ⟨rfl, by simp [go_sem, q0e]⟩) ?_
      refine tab_val (.pointer (some ⟨g, m * 4, none⟩)) (fun r w1 hr hg hA => by obtain ⟨⟨_, q0⟩, ⟨_, q1⟩, -⟩ := hA; have q0e : r (.tmp 93) = .slice (some ⟨g, 0, none⟩) N cap := q0; have q1e : r (.tmp 94) = .int .i64 (m : Int) := q1; exact ⟨rfl, by simp [go_sem, q0e, q1e, hm1, hm2]⟩) ?_
      refine tab_val (.agg #[.int .i64 pa, .int .i64 pb, .int .i64 pf, .int .i64 pw]) (fun r w1 hr hg hA => by obtain ⟨⟨_, q0⟩, -⟩ := hA; have q0e : r (.tmp 95) = .pointer (some ⟨g, m * 4, none⟩) := q0; have hc := HF.out w1 (hg1.trans hg); exact ⟨rfl, by simp [go_sem, q0e, hc]⟩) ?_
      refine tab_val (.slice (some ⟨g, 0, none⟩) N cap) (fun r w1 hr hg hA => by obtain ⟨q0, -⟩ := hA; have q0e : r (.tmp 0) = .slice (some ⟨g, 0, none⟩) N cap := q0; exact ⟨rfl, by simp [go_sem, q0e]⟩) ?_
      refine tab_val (.int .i64 (H : Int)) (fun r w1 hr hg hA => by obtain ⟨q0, -⟩ := hA; have q0e : r (.tmp 16) = .int .i64 (H : Int) := q0; exact ⟨rfl, by simp [go_sem, q0e]⟩) ?_
      refine tab_val (.pointer (some ⟨g, H * 4, none⟩)) (fun r w1 hr hg hA => by obtain ⟨⟨_, q0⟩, ⟨_, q1⟩, -⟩ := hA; have q0e : r (.tmp 97) = .slice (some ⟨g, 0, none⟩) N cap := q0; have q1e : r (.tmp 98) = .int .i64 (H : Int) := q1; exact ⟨rfl, by simp [go_sem, q0e, q1e, hH1, hH2]⟩) ?_
      refine tab_val (.agg #[.int .i64 qa, .int .i64 qb, .int .i64 qf, .int .i64 qw]) (fun r w1 hr hg hA => by obtain ⟨⟨_, q0⟩, -⟩ := hA; have q0e : r (.tmp 99) = .pointer (some ⟨g, H * 4, none⟩) := q0; have hc := HF.out w1 (hg1.trans hg); exact ⟨rfl, by simp [go_sem, q0e, hc]⟩) ?_
      refine tab_call (v := .int .i64 c) (fun w1 hg => HC.out w1) (fun r w1 hr hg hA => by obtain ⟨⟨_, q0⟩, ⟨_, q1⟩, ⟨_, q2⟩, -⟩ := hA; have q0e : r (.tmp 92) = fnC := q0; have q1e : r (.tmp 96) = .agg #[.int .i64 pa, .int .i64 pb, .int .i64 pf, .int .i64 pw] := q1; have q2e : r (.tmp 100) = .agg #[.int .i64 qa, .int .i64 qb, .int .i64 qf, .int .i64 qw] := q2; exact ⟨rfl, by simp [go_sem, hr.func, q0e, q1e, q2e]⟩) ?_
      refine tab_val (.bool (decide (c < 0))) (fun r w1 hr hg hA => by obtain ⟨⟨_, q0⟩, -⟩ := hA; have q0e : r (.tmp 101) = .int .i64 c := q0; exact ⟨rfl, by simp [go_sem, hr.const, q0e]⟩) ?_
      refine tab_val (.bool (!decide (c < 0))) (fun r w1 hr hg hA => by obtain ⟨⟨_, q0⟩, -⟩ := hA; have q0e : r (.tmp 102) = .bool (decide (c < 0)) := q0; exact ⟨rfl, by simp [go_sem, q0e]⟩) ?_
      refine tab_end ?_
      simp only [List.reverse_cons, List.reverse_nil, List.nil_append, List.cons_append, Out, BlockP, forall_eq, forall_const, Act.put, List.setIfInBounds_toArray, List.set_cons_succ, List.set_cons_zero]
      intro wA hgA
      have GA := Lib.hid (hg1.trans hgA)
      clear hg1 hg1' hgA hw0
      have HO2 := Lib.hid (ownsRow_grows HO.out GA.out)
      have HG2 := Lib.hid (grownBy_trans' HG.out (grows_grownBy GA.out (some g)))
      clear HO HG GA HF
      by_cases hc : c < 0
      · have HT : Hid (ltB d[m]! d[H]! = true) := Lib.hid (HLT.out.trans (decide_eq_true hc))
        have hcb : (!decide (c < 0)) = false := by simp [hc]
        rw [hcb]
        go_wp2_with fail
        exact ⟨⟨i, H, hmi, hiH, by omega, rfl, rfl, HLO, Lib.hid (fun x h1 h2 => ltB_le (leB_refl _) HT.out (HS1.out.le (by omega) h1 h2)), HO2, HG2⟩, by simp only [intOf]; omega⟩
      · have HT : Hid (ltB d[m]! d[H]! = false) := Lib.hid (HLT.out.trans (decide_eq_false hc))
        have hcb : (!decide (c < 0)) = true := by simp [hc]
        rw [hcb]
        go_wp2_with fail
        exact ⟨⟨H + 1, j, by omega, by omega, hjb, by simp, rfl, Lib.hid (fun x h1 h2 => leB_trans (HS1.out.le h1 (show x ≤ H by omega) (by omega)) (show leB d[H]! d[m]! from HT.out)), HHI, HO2, HG2⟩, by simp only [intOf]; omega⟩
    · obtain rfl : i = j := by omega
      have hltz : ¬ (i : Int) < (i : Int) := by omega
      go_wp2_with fail
      go_loopw [17] (fun vk wk => ∃ (k : Nat) (dk : Array CutB), i ≤ k ∧ k ≤ m ∧ vk = .int .i64 (k : Int) ∧ Hid (Rotd k m (m + 1) d dk) ∧ Hid (wk.ownsRow B 61 4 (.slice (some ⟨g, 0, none⟩) N cap) N (rowB dk)) ∧ Hid (w.grownBy wk (some g))) (fun k _ => (intOf k).toNat)
      case atStart => exact ⟨m, d, hjb, Nat.le_refl _, rfl, Lib.hid (Rotd.none (by omega) (by omega) (.inl rfl) d), HO, HG⟩
      case round =>
        clear HO HG
        obtain ⟨k', dk, hik, hkm, rfl, HR, HO, HG⟩ := hrel
        have HD := Lib.hid (HR.out.size.trans HN.out)
        by_cases hlt2 : i < k'
        · obtain ⟨k, rfl⟩ : ∃ k, k' = k + 1 := ⟨k' - 1, by omega⟩
          have hltz2 : (i : Int) < (k : Int) + 1 := by omega
          have hak : k + 1 < N := by omega
          have hbk : k < N := by omega
          have hz1 : (k : Int) + 1 < (N : Int) := by omega
          have hz2 : (k : Int) < (N : Int) := by omega
          have ez : ((k : Int) + 1).toNat = k + 1 := by omega
          have HR2 := Lib.hid (HR.out.pull hkm (by rw [HN.out]; omega))
          obtain ⟨x0, x1, x2, x3⟩ := ownB_cells HO.out HD.out hak
          obtain ⟨y0, y1, y2, y3⟩ := ownB_cells HO.out HD.out hbk
          have f0 := HO.out.frozenAt ((k + 1) * 4)
          have f1 := HO.out.frozenAt ((k + 1) * 4 + 1)
          have f2 := HO.out.frozenAt ((k + 1) * 4 + 2)
          have f3 := HO.out.frozenAt ((k + 1) * 4 + 3)
          have g0 := HO.out.frozenAt (k * 4)
          have g1 := HO.out.frozenAt (k * 4 + 1)
          have g2 := HO.out.frozenAt (k * 4 + 2)
          have g3 := HO.out.frozenAt (k * 4 + 3)
          have SW := ownB_swp HO.out HD.out hak hbk
          obtain ⟨⟨⟨⟨pa, pb⟩, pf, pw⟩, hpo⟩, hp⟩ : ∃ c, c = dk[(k + 1)]! := ⟨_, rfl⟩
          obtain ⟨⟨⟨⟨qa, qb⟩, qf, qw⟩, hqo⟩, hq⟩ : ∃ c, c = dk[k]! := ⟨_, rfl⟩
          rw [← hp] at x0 x1 x2 x3
          rw [← hq] at y0 y1 y2 y3
          rw [← hp, ← hq] at SW
          simp only at x0 x1 x2 x3 y0 y1 y2 y3
          have SW := Lib.hid SW
          clear hp hq
          go_wp2_with fail
          go_region
          have OW := Lib.hid (World.ownsRow.drew SW.out.1)
          have GW := Lib.hid (grownBy_trans' (grownBy_trans' HG.out SW.out.2) (grows_grownBy (Grows.refl _).dr _))
          clear x0 x1 x2 x3 y0 y1 y2 y3 f0 f1 f2 f3 g0 g1 g2 g3
          go_wp2
          exact ⟨⟨k, swp dk (k + 1) k, by omega, by omega, by simp, HR2, OW, GW⟩, by simp only [intOf]; omega⟩
        · obtain rfl : i = k' := by omega
          have hltz2 : ¬ (i : Int) < (i : Int) := by omega
          have HF := Lib.hid (put_back hmi (by omega) (by rw [HN.out]; exact hmbz) HS1.out HR.out HLO.out HHI.out)
          go_wp2_with fail
          refine bodyPost_ret (results_none rfl _ _ _) rfl ?_
          exact ⟨rfl, dk, by rw [HMB.out]; exact HF.out, HO.out, HG.out⟩
end Go.Proofs.Ytlgplhanhnjeiaa
