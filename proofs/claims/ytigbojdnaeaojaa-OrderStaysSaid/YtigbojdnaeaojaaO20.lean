/-
  Layer 4: the law on what stays.
-/
import Derived.Test.YtigbojdnaeaojaaO19
namespace Go.Proofs.Ytigbojdnaeaojaa
open Go.RowKit Go.Tab

theorem pair_cases (a b c d : Int) : (a = c ∧ b = d) ∨ (¬ a = c) ∨ (a = c ∧ ¬ b = d) := by omega

set_option maxRecDepth 100000 in
set_option maxHeartbeats 8000000 in
theorem law_stays (l : List (Int × Int)) (n m : List Int) (al an am : Option Addr) (kl cl kn cn km cm ll ln lm : Nat) (w : World)
    (hl0 : ll = min kl 60) (hn0 : ln = min kn 60) (hm0 : lm = min km 60) (hkl : kl ≤ cl) (hkn : kn ≤ cn) (hkm : km ≤ cm) (hcl : cl ≤ 9223372036854775807) (hcn : cn ≤ 9223372036854775807) (hcm : cm ≤ 9223372036854775807)
    (Hl : Hid (l.length = ll)) (Hn : Hid (n.length = ln)) (Hm : Hid (m.length = lm))
    (PL : Hid (PtsAt w (.slice al ll cl) l)) (IN : Hid (IntsAt w (.slice an ln cn) n)) (IM : Hid (IntsAt w (.slice am lm cm) m)) :
    Calls Try.prog 5 #[.slice al kl cl, .slice an kn cn, .slice am km cm] w (Ret (.bool true) w) := by
  obtain ⟨i0, hi0, hi1, hi2, hi3⟩ := info_parts infoI
  obtain ⟨p0, hp0, hp1, hp2, hp3⟩ := info_parts infoP
  have m1 : (if (60 : Int) < (kl : Int) then (60 : Int) else (kl : Int)) = (ll : Int) := by omega
  have m2 : (if (60 : Int) < (kn : Int) then (60 : Int) else (kn : Int)) = (ln : Int) := by omega
  have m3 : (if (60 : Int) < (km : Int) then (60 : Int) else (km : Int)) = (lm : Int) := by omega
  have b1 : ll ≤ cl := by omega
  have b2 : ln ≤ cn := by omega
  have b3 : lm ≤ cm := by omega
  have B : Hid (ll ≤ 60 ∧ ln ≤ 60 ∧ lm ≤ 60) := Lib.hid (by omega)
  clear hl0 hn0 hm0
  go_enter Try.func5, Try.ntmps5
  go_wp2_with fail
  go_quiet (fail)
  rename_i nq
  obtain ⟨wq, hwq⟩ : ∃ wq, wq = w.drewN nq := ⟨_, rfl⟩
  rw [← hwq]
  have G0 : Hid (Grows w wq) := Lib.hid (by rw [hwq]; exact ⟨rfl, rfl, rfl, Nat.le_refl _, fun _ _ => rfl⟩)
  clear hwq m1 m2 m3 hkl hkn hkm
  go_wp2
  go_loopw [7, 8] (fun o i wr => ∃ k : Nat, i = iv k ∧ k ≤ ll ∧ wr.ownsRow w.heap.size 47 2 o k (flat (l.reverse.take k)) ∧ Grows w wr) (fun _ i _ => 61 - (intOf i).toNat)
  case atStart => exact ⟨0, rfl, Nat.zero_le _, by simpa [flat] using World.ownsRow_nil _ _ _ _, G0.out⟩
  case round =>
    obtain ⟨k, rfl, hk, hown, hg⟩ := hrel
    have Own := Lib.hid hown
    have G := Lib.hid hg
    clear hown hg G0
    by_cases hlt : k < ll
    · have hB := B.out.1
      obtain ⟨j, hj⟩ : ∃ j, j = ll - 1 - k := ⟨_, rfl⟩
      have hjl : j < ll := by omega
      have e1 : (ll : Int) - 1 - (k : Int) = (j : Int) := by omega
      obtain ⟨b, off, rfl, hb, _, _⟩ := PL.out.at_ (i := j) (by rw [Hl.out]; exact hjl)
      obtain ⟨c1, c2⟩ := (PL.out.grows G.out).at_cell (i := j) (by rw [Hl.out]; exact hjl)
      have HR := Lib.hid (rev_take l k (by rw [Hl.out]; exact hlt))
      rw [Hl.out, ← hj] at HR
      generalize l.getD j (0, 0) = x at c1 c2 HR
      clear hj
      go_wp2_with (at_builtin; refine append_pts rfl _ _ 22 rfl w.heap.size 47 p0 (.agg #[.int .i64 0, .int .i64 0]) 16 Try.underlying22 hp0 hp1 hp2 hp3 rfl u7 k _ rfl (ownsRow_grows Own.out (Grows.alloc _ _)) [x] _ rfl (pts_block (heap_new _ (.cells #[.int .i64 x.1, .int .i64 x.2] 47) _ rfl) rfl (by simp)) (by simp only [List.length_singleton]; unfold maxLen; omega) (by simp only [List.length_singleton]; omega) (by have := G.out.size; simp only [World.size_alloc]; omega) ?_; intro o' w2 hown2 hgr2; have Own2 := Lib.hid hown2; have G2 := Lib.hid (hgr2 w (G.out.al _) (Nat.le_refl _)); clear hown2 hgr2)
      refine ⟨⟨k + 1, by simp, by omega, ?_, G2.out⟩, by simp only [intOf]; omega⟩
      rw [HR.out, flat_append]
      exact Own2.out
    · have hke : k = ll := by omega
      subst hke
      have TU : Hid (PtsAt wr u7 l.reverse) := Lib.hid (by
        have := Own.out
        rw [List.take_of_length_le (by rw [List.length_reverse, Hl.out]; omega)] at this
        exact own_pts this (by rw [List.length_reverse, Hl.out]) (by rw [List.length_reverse, Hl.out]; have := B.out.1; omega))
      clear Own
      go_wp2_with fail
      refine (points_any _ l _ (PL.out.grows G.out) (by rw [Hl.out]; have := B.out.1; omega)).mono ?_
      rintro _ w1 ⟨va, rfl, hva, hg⟩
      have PA := Lib.hid (own_pts hva rfl (by rw [sortF_length, Hl.out]; have := B.out.1; omega))
      have T1 := Lib.hid (TU.out.grows hg)
      have G1 := Lib.hid (G.out.trans hg)
      clear hva hg TU G
      go_wp2_with fail
      refine (points_any _ l.reverse _ T1.out (by rw [List.length_reverse, Hl.out]; have := B.out.1; omega)).mono ?_
      rw [sortP_reverse]
      rintro _ w2 ⟨vb, rfl, hvb, hg⟩
      have PB := Lib.hid (own_pts hvb rfl (by rw [sortF_length, Hl.out]; have := B.out.1; omega))
      have PA2 := Lib.hid (PA.out.grows hg)
      have G2 := Lib.hid (G1.out.trans hg)
      clear hvb hg T1 G1 PA
      have AL : (sortF lessP l).length = k := by rw [sortF_length, Hl.out]
      have AR := Lib.hid (sortP_rises l)
      have AC := Lib.hid (fun e => cntP_sort e l)
      generalize sortF lessP l = A at PA2 PB AL AR AC
      obtain ⟨aa, ca, rfl, hca, _⟩ := PA2.out.shape
      obtain ⟨ab, cb, rfl, hcb, _⟩ := PB.out.shape
      rw [AL] at PA2 PB hca hcb ⊢
      have HAL := Lib.hid AL
      clear AL
      go_wp2
      go_loopw [11] (fun i wr => ∃ j : Nat, i = iv j ∧ j ≤ k ∧ Grows w2 wr) (fun i _ => 61 - (intOf i).toNat)
      case atStart => exact ⟨0, rfl, Nat.zero_le _, Grows.refl _⟩
      case round =>
        obtain ⟨j, rfl, hj, hg⟩ := hrel
        have G := Lib.hid hg
        clear hg
        have hB := B.out.1
        by_cases hjk : j < k
        · obtain ⟨ba, oa, rfl, hba, _, _⟩ := PA2.out.at_ (i := j) (by rw [HAL.out]; exact hjk)
          obtain ⟨bb, ob, rfl, hbb, _, _⟩ := PB.out.at_ (i := j) (by rw [HAL.out]; exact hjk)
          obtain ⟨a1, a2⟩ := (PA2.out.grows G.out).at_cell (i := j) (by rw [HAL.out]; exact hjk)
          obtain ⟨d1, d2⟩ := (PB.out.grows G.out).at_cell (i := j) (by rw [HAL.out]; exact hjk)
          have HNX := Lib.hid (fun (i : Nat) (hi : i + 1 < A.length) => AR.out.next hi)
          by_cases h0 : 0 < j
          · obtain ⟨i, hi⟩ : ∃ i, i = j - 1 := ⟨_, rfl⟩
            have hik : i < k := by omega
            have e2 : (j : Int) - 1 = (i : Int) := by omega
            obtain ⟨p1, p2⟩ := (PA2.out.grows G.out).at_cell (i := i) (by rw [HAL.out]; exact hik)
            have NX := HNX.out i (by rw [HAL.out]; omega)
            rw [show i + 1 = j by omega, lessP_not] at NX
            generalize hE : A.getD j (0, 0) = e at a1 a2 d1 d2 NX
            generalize A.getD i (0, 0) = pp at p1 p2 NX
            obtain ⟨ex, ey⟩ := e
            obtain ⟨px, py⟩ := pp
            have HEV := Lib.hid hE
            clear hE hi HNX
            simp only at a1 a2 d1 d2 p1 p2 NX
            have n1 : ¬ ex < px := fun h => NX (.inl h)
            by_cases he : ex = px
            · subst he
              have n2 : ¬ ey < py := fun h => NX (.inr ⟨rfl, h⟩)
              have g1 : decide (0 < j) = true := by simp [h0]
              have g2 : decide (ex < ex) = false := by simp
              have g4 : decide (ey < py) = false := by simp [n2]
              clear NX
              go_wp2_with fail
              go_quiet (fail)
              clear a1 a2 d1 d2 p1 p2 n1 n2 e2 g1 g2 g4
              rename_i nq
              obtain ⟨wp, hwn⟩ : ∃ wn, wn = wr.drewN nq := ⟨_, rfl⟩
              rw [← hwn]
              have G := Lib.hid (G.out.trans (show Grows wr wp by rw [hwn]; exact ⟨rfl, rfl, rfl, Nat.le_refl _, fun _ _ => rfl⟩))
              clear hwn
              go_wp2
              go_loopw [12, 13, 14] (fun x y t wr => ∃ t0 : Nat, t = iv t0 ∧ x = iv (cntP (ex, ey) (l.take t0)) ∧ y = iv (cntP (ex, ey) (A.take t0)) ∧ t0 ≤ k ∧ Grows wp wr) (fun _ _ t _ => 61 - (intOf t).toNat)
              case atStart => exact ⟨0, rfl, rfl, rfl, Nat.zero_le _, Grows.refl _⟩
              case round =>
                obtain ⟨t, rfl, rfl, rfl, ht, hg⟩ := hrel
                have GI := Lib.hid hg
                clear hg
                by_cases htk : t < k
                · obtain ⟨bl, ol, rfl, hbl, _, _⟩ := PL.out.at_ (i := t) (by rw [Hl.out]; exact htk)
                  have G3 := Lib.hid (G.out.trans GI.out)
                  obtain ⟨l1, l2⟩ := (PL.out.grows (G2.out.trans G3.out)).at_cell (i := t) (by rw [Hl.out]; exact htk)
                  obtain ⟨s1, s2⟩ := (PA2.out.grows G3.out).at_cell (i := t) (by rw [HAL.out]; exact htk)
                  obtain ⟨a1, a2⟩ := (PA2.out.grows G3.out).at_cell (i := j) (by rw [HAL.out]; exact hjk)
                  rw [HEV.out] at a1 a2
                  simp only at a1 a2
                  have C1 := Lib.hid (cntP_succ (ex, ey) l t (by rw [Hl.out]; exact htk))
                  have C2 := Lib.hid (cntP_succ (ex, ey) A t (by rw [HAL.out]; exact htk))
                  have L1 := cntP_le (ex, ey) (l.take t)
                  have L2 := cntP_le (ex, ey) (A.take t)
                  rw [List.length_take] at L1 L2
                  have L1' : cntP (ex, ey) (l.take t) ≤ 60 := by omega
                  have L2' : cntP (ex, ey) (A.take t) ≤ 60 := by omega
                  clear L1 L2
                  generalize cntP (ex, ey) (l.take t) = c1 at L1' C1
                  generalize cntP (ex, ey) (A.take t) = c2 at L2' C2
                  generalize l.getD t (0, 0) = q at l1 l2 C1
                  generalize A.getD t (0, 0) = r at s1 s2 C2
                  obtain ⟨qx, qy⟩ := q
                  obtain ⟨rx, ry⟩ := r
                  simp only at l1 l2 s1 s2
                  have ht60 : t < 60 := by omega
                  rcases pair_cases qx qy ex ey with ⟨rfl, rfl⟩ | h1 | ⟨rfl, h1⟩
                  · rcases pair_cases rx ry qx qy with ⟨he1, he2⟩ | h2 | ⟨he1, h2⟩
                    · subst he1
                      subst he2
                      go_wp2_with fail
                      go_quiet (fail)
                      go_wp2_with fail
                      go_quiet (fail)
                      go_wp2
                      refine ⟨⟨t + 1, by simp, by rw [C1.out]; simp, by rw [C2.out]; simp, by omega, GI.out.trans ⟨rfl, rfl, rfl, Nat.le_refl _, fun _ _ => rfl⟩⟩, by simp only [intOf]; omega⟩
                    · have b2 : (rx == qx) = false := by rw [beq_eq_false_iff_ne]; exact h2
                      go_wp2_with fail
                      go_quiet (fail)
                      go_wp2_with fail
                      go_quiet (fail)
                      go_wp2
                      refine ⟨⟨t + 1, by simp, by rw [C1.out]; simp, by rw [C2.out]; simp [h2], by omega, GI.out.trans ⟨rfl, rfl, rfl, Nat.le_refl _, fun _ _ => rfl⟩⟩, by simp only [intOf]; omega⟩
                    · have b2 : (ry == qy) = false := by rw [beq_eq_false_iff_ne]; exact h2
                      subst he1
                      go_wp2_with fail
                      go_quiet (fail)
                      go_wp2_with fail
                      go_quiet (fail)
                      go_wp2
                      refine ⟨⟨t + 1, by simp, by rw [C1.out]; simp, by rw [C2.out]; simp [h2], by omega, GI.out.trans ⟨rfl, rfl, rfl, Nat.le_refl _, fun _ _ => rfl⟩⟩, by simp only [intOf]; omega⟩
                  · rcases pair_cases rx ry ex ey with ⟨he1, he2⟩ | h2 | ⟨he1, h2⟩
                    · have b1 : (qx == ex) = false := by rw [beq_eq_false_iff_ne]; exact h1
                      subst he1
                      subst he2
                      go_wp2_with fail
                      go_quiet (fail)
                      go_wp2_with fail
                      go_quiet (fail)
                      go_wp2
                      refine ⟨⟨t + 1, by simp, by rw [C1.out]; simp [h1], by rw [C2.out]; simp, by omega, GI.out.trans ⟨rfl, rfl, rfl, Nat.le_refl _, fun _ _ => rfl⟩⟩, by simp only [intOf]; omega⟩
                    · have b1 : (qx == ex) = false := by rw [beq_eq_false_iff_ne]; exact h1
                      have b2 : (rx == ex) = false := by rw [beq_eq_false_iff_ne]; exact h2
                      go_wp2_with fail
                      go_quiet (fail)
                      go_wp2_with fail
                      go_quiet (fail)
                      go_wp2
                      refine ⟨⟨t + 1, by simp, by rw [C1.out]; simp [h1], by rw [C2.out]; simp [h2], by omega, GI.out.trans ⟨rfl, rfl, rfl, Nat.le_refl _, fun _ _ => rfl⟩⟩, by simp only [intOf]; omega⟩
                    · have b1 : (qx == ex) = false := by rw [beq_eq_false_iff_ne]; exact h1
                      have b2 : (ry == ey) = false := by rw [beq_eq_false_iff_ne]; exact h2
                      subst he1
                      go_wp2_with fail
                      go_quiet (fail)
                      go_wp2_with fail
                      go_quiet (fail)
                      go_wp2
                      refine ⟨⟨t + 1, by simp, by rw [C1.out]; simp [h1], by rw [C2.out]; simp [h2], by omega, GI.out.trans ⟨rfl, rfl, rfl, Nat.le_refl _, fun _ _ => rfl⟩⟩, by simp only [intOf]; omega⟩
                  · rcases pair_cases rx ry qx ey with ⟨he1, he2⟩ | h2 | ⟨he1, h2⟩
                    · have b1 : (qy == ey) = false := by rw [beq_eq_false_iff_ne]; exact h1
                      subst he1
                      subst he2
                      go_wp2_with fail
                      go_quiet (fail)
                      go_wp2_with fail
                      go_quiet (fail)
                      go_wp2
                      refine ⟨⟨t + 1, by simp, by rw [C1.out]; simp [h1], by rw [C2.out]; simp, by omega, GI.out.trans ⟨rfl, rfl, rfl, Nat.le_refl _, fun _ _ => rfl⟩⟩, by simp only [intOf]; omega⟩
                    · have b1 : (qy == ey) = false := by rw [beq_eq_false_iff_ne]; exact h1
                      have b2 : (rx == qx) = false := by rw [beq_eq_false_iff_ne]; exact h2
                      go_wp2_with fail
                      go_quiet (fail)
                      go_wp2_with fail
                      go_quiet (fail)
                      go_wp2
                      refine ⟨⟨t + 1, by simp, by rw [C1.out]; simp [h1], by rw [C2.out]; simp [h2], by omega, GI.out.trans ⟨rfl, rfl, rfl, Nat.le_refl _, fun _ _ => rfl⟩⟩, by simp only [intOf]; omega⟩
                    · have b1 : (qy == ey) = false := by rw [beq_eq_false_iff_ne]; exact h1
                      have b2 : (ry == ey) = false := by rw [beq_eq_false_iff_ne]; exact h2
                      subst he1
                      go_wp2_with fail
                      go_quiet (fail)
                      go_wp2_with fail
                      go_quiet (fail)
                      go_wp2
                      refine ⟨⟨t + 1, by simp, by rw [C1.out]; simp [h1], by rw [C2.out]; simp [h2], by omega, GI.out.trans ⟨rfl, rfl, rfl, Nat.le_refl _, fun _ _ => rfl⟩⟩, by simp only [intOf]; omega⟩
                · have hte : t = k := by omega
                  subst hte
                  have E1 : Hid (cntP (ex, ey) (l.take t) = cntP (ex, ey) (A.take t)) := Lib.hid (by
                    rw [List.take_of_length_le (by rw [Hl.out]; omega), List.take_of_length_le (by rw [HAL.out]; omega), AC.out])
                  rw [← E1.out]
                  have L1 := cntP_le (ex, ey) (l.take t)
                  rw [List.length_take] at L1
                  generalize cntP (ex, ey) (l.take t) = c1 at L1 ⊢
                  have bcc : ((c1 : Int) == (c1 : Int)) = true := by simp
                  clear L1
                  have G3 := Lib.hid (G.out.trans GI.out)
                  clear G GI
                  go_wp2
                  refine ⟨⟨j + 1, by simp, by omega, G3.out⟩, by simp only [intOf]; omega⟩
            · have be : (ex == px) = false := by rw [beq_eq_false_iff_ne]; exact he
              have g1 : decide (0 < j) = true := by simp [h0]
              have g2 : decide (ex < px) = false := by simp [n1]
              clear NX
              go_wp2_with fail
              go_quiet (fail)
              clear a1 a2 d1 d2 p1 p2 n1 be e2 g1 g2
              rename_i nq
              obtain ⟨wp, hwn⟩ : ∃ wn, wn = wr.drewN nq := ⟨_, rfl⟩
              rw [← hwn]
              have G := Lib.hid (G.out.trans (show Grows wr wp by rw [hwn]; exact ⟨rfl, rfl, rfl, Nat.le_refl _, fun _ _ => rfl⟩))
              clear hwn
              go_wp2
              go_loopw [12, 13, 14] (fun x y t wr => ∃ t0 : Nat, t = iv t0 ∧ x = iv (cntP (ex, ey) (l.take t0)) ∧ y = iv (cntP (ex, ey) (A.take t0)) ∧ t0 ≤ k ∧ Grows wp wr) (fun _ _ t _ => 61 - (intOf t).toNat)
              case atStart => exact ⟨0, rfl, rfl, rfl, Nat.zero_le _, Grows.refl _⟩
              case round =>
                obtain ⟨t, rfl, rfl, rfl, ht, hg⟩ := hrel
                have GI := Lib.hid hg
                clear hg
                by_cases htk : t < k
                · obtain ⟨bl, ol, rfl, hbl, _, _⟩ := PL.out.at_ (i := t) (by rw [Hl.out]; exact htk)
                  have G3 := Lib.hid (G.out.trans GI.out)
                  obtain ⟨l1, l2⟩ := (PL.out.grows (G2.out.trans G3.out)).at_cell (i := t) (by rw [Hl.out]; exact htk)
                  obtain ⟨s1, s2⟩ := (PA2.out.grows G3.out).at_cell (i := t) (by rw [HAL.out]; exact htk)
                  obtain ⟨a1, a2⟩ := (PA2.out.grows G3.out).at_cell (i := j) (by rw [HAL.out]; exact hjk)
                  rw [HEV.out] at a1 a2
                  simp only at a1 a2
                  have C1 := Lib.hid (cntP_succ (ex, ey) l t (by rw [Hl.out]; exact htk))
                  have C2 := Lib.hid (cntP_succ (ex, ey) A t (by rw [HAL.out]; exact htk))
                  have L1 := cntP_le (ex, ey) (l.take t)
                  have L2 := cntP_le (ex, ey) (A.take t)
                  rw [List.length_take] at L1 L2
                  have L1' : cntP (ex, ey) (l.take t) ≤ 60 := by omega
                  have L2' : cntP (ex, ey) (A.take t) ≤ 60 := by omega
                  clear L1 L2
                  generalize cntP (ex, ey) (l.take t) = c1 at L1' C1
                  generalize cntP (ex, ey) (A.take t) = c2 at L2' C2
                  generalize l.getD t (0, 0) = q at l1 l2 C1
                  generalize A.getD t (0, 0) = r at s1 s2 C2
                  obtain ⟨qx, qy⟩ := q
                  obtain ⟨rx, ry⟩ := r
                  simp only at l1 l2 s1 s2
                  have ht60 : t < 60 := by omega
                  rcases pair_cases qx qy ex ey with ⟨rfl, rfl⟩ | h1 | ⟨rfl, h1⟩
                  · rcases pair_cases rx ry qx qy with ⟨he1, he2⟩ | h2 | ⟨he1, h2⟩
                    · subst he1
                      subst he2
                      go_wp2_with fail
                      go_quiet (fail)
                      go_wp2_with fail
                      go_quiet (fail)
                      go_wp2
                      refine ⟨⟨t + 1, by simp, by rw [C1.out]; simp, by rw [C2.out]; simp, by omega, GI.out.trans ⟨rfl, rfl, rfl, Nat.le_refl _, fun _ _ => rfl⟩⟩, by simp only [intOf]; omega⟩
                    · have b2 : (rx == qx) = false := by rw [beq_eq_false_iff_ne]; exact h2
                      go_wp2_with fail
                      go_quiet (fail)
                      go_wp2_with fail
                      go_quiet (fail)
                      go_wp2
                      refine ⟨⟨t + 1, by simp, by rw [C1.out]; simp, by rw [C2.out]; simp [h2], by omega, GI.out.trans ⟨rfl, rfl, rfl, Nat.le_refl _, fun _ _ => rfl⟩⟩, by simp only [intOf]; omega⟩
                    · have b2 : (ry == qy) = false := by rw [beq_eq_false_iff_ne]; exact h2
                      subst he1
                      go_wp2_with fail
                      go_quiet (fail)
                      go_wp2_with fail
                      go_quiet (fail)
                      go_wp2
                      refine ⟨⟨t + 1, by simp, by rw [C1.out]; simp, by rw [C2.out]; simp [h2], by omega, GI.out.trans ⟨rfl, rfl, rfl, Nat.le_refl _, fun _ _ => rfl⟩⟩, by simp only [intOf]; omega⟩
                  · rcases pair_cases rx ry ex ey with ⟨he1, he2⟩ | h2 | ⟨he1, h2⟩
                    · have b1 : (qx == ex) = false := by rw [beq_eq_false_iff_ne]; exact h1
                      subst he1
                      subst he2
                      go_wp2_with fail
                      go_quiet (fail)
                      go_wp2_with fail
                      go_quiet (fail)
                      go_wp2
                      refine ⟨⟨t + 1, by simp, by rw [C1.out]; simp [h1], by rw [C2.out]; simp, by omega, GI.out.trans ⟨rfl, rfl, rfl, Nat.le_refl _, fun _ _ => rfl⟩⟩, by simp only [intOf]; omega⟩
                    · have b1 : (qx == ex) = false := by rw [beq_eq_false_iff_ne]; exact h1
                      have b2 : (rx == ex) = false := by rw [beq_eq_false_iff_ne]; exact h2
                      go_wp2_with fail
                      go_quiet (fail)
                      go_wp2_with fail
                      go_quiet (fail)
                      go_wp2
                      refine ⟨⟨t + 1, by simp, by rw [C1.out]; simp [h1], by rw [C2.out]; simp [h2], by omega, GI.out.trans ⟨rfl, rfl, rfl, Nat.le_refl _, fun _ _ => rfl⟩⟩, by simp only [intOf]; omega⟩
                    · have b1 : (qx == ex) = false := by rw [beq_eq_false_iff_ne]; exact h1
                      have b2 : (ry == ey) = false := by rw [beq_eq_false_iff_ne]; exact h2
                      subst he1
                      go_wp2_with fail
                      go_quiet (fail)
                      go_wp2_with fail
                      go_quiet (fail)
                      go_wp2
                      refine ⟨⟨t + 1, by simp, by rw [C1.out]; simp [h1], by rw [C2.out]; simp [h2], by omega, GI.out.trans ⟨rfl, rfl, rfl, Nat.le_refl _, fun _ _ => rfl⟩⟩, by simp only [intOf]; omega⟩
                  · rcases pair_cases rx ry qx ey with ⟨he1, he2⟩ | h2 | ⟨he1, h2⟩
                    · have b1 : (qy == ey) = false := by rw [beq_eq_false_iff_ne]; exact h1
                      subst he1
                      subst he2
                      go_wp2_with fail
                      go_quiet (fail)
                      go_wp2_with fail
                      go_quiet (fail)
                      go_wp2
                      refine ⟨⟨t + 1, by simp, by rw [C1.out]; simp [h1], by rw [C2.out]; simp, by omega, GI.out.trans ⟨rfl, rfl, rfl, Nat.le_refl _, fun _ _ => rfl⟩⟩, by simp only [intOf]; omega⟩
                    · have b1 : (qy == ey) = false := by rw [beq_eq_false_iff_ne]; exact h1
                      have b2 : (rx == qx) = false := by rw [beq_eq_false_iff_ne]; exact h2
                      go_wp2_with fail
                      go_quiet (fail)
                      go_wp2_with fail
                      go_quiet (fail)
                      go_wp2
                      refine ⟨⟨t + 1, by simp, by rw [C1.out]; simp [h1], by rw [C2.out]; simp [h2], by omega, GI.out.trans ⟨rfl, rfl, rfl, Nat.le_refl _, fun _ _ => rfl⟩⟩, by simp only [intOf]; omega⟩
                    · have b1 : (qy == ey) = false := by rw [beq_eq_false_iff_ne]; exact h1
                      have b2 : (ry == ey) = false := by rw [beq_eq_false_iff_ne]; exact h2
                      subst he1
                      go_wp2_with fail
                      go_quiet (fail)
                      go_wp2_with fail
                      go_quiet (fail)
                      go_wp2
                      refine ⟨⟨t + 1, by simp, by rw [C1.out]; simp [h1], by rw [C2.out]; simp [h2], by omega, GI.out.trans ⟨rfl, rfl, rfl, Nat.le_refl _, fun _ _ => rfl⟩⟩, by simp only [intOf]; omega⟩
                · have hte : t = k := by omega
                  subst hte
                  have E1 : Hid (cntP (ex, ey) (l.take t) = cntP (ex, ey) (A.take t)) := Lib.hid (by
                    rw [List.take_of_length_le (by rw [Hl.out]; omega), List.take_of_length_le (by rw [HAL.out]; omega), AC.out])
                  rw [← E1.out]
                  have L1 := cntP_le (ex, ey) (l.take t)
                  rw [List.length_take] at L1
                  generalize cntP (ex, ey) (l.take t) = c1 at L1 ⊢
                  have bcc : ((c1 : Int) == (c1 : Int)) = true := by simp
                  clear L1
                  have G3 := Lib.hid (G.out.trans GI.out)
                  clear G GI
                  go_wp2
                  refine ⟨⟨j + 1, by simp, by omega, G3.out⟩, by simp only [intOf]; omega⟩
          · generalize hE : A.getD j (0, 0) = e at a1 a2 d1 d2
            obtain ⟨ex, ey⟩ := e
            have HEV := Lib.hid hE
            clear hE HNX
            simp only at a1 a2 d1 d2
            go_wp2_with fail
            go_quiet (fail)
            clear a1 a2 d1 d2
            rename_i nq
            obtain ⟨wp, hwn⟩ : ∃ wn, wn = wr.drewN nq := ⟨_, rfl⟩
            rw [← hwn]
            have G := Lib.hid (G.out.trans (show Grows wr wp by rw [hwn]; exact ⟨rfl, rfl, rfl, Nat.le_refl _, fun _ _ => rfl⟩))
            clear hwn
            go_wp2
            go_loopw [12, 13, 14] (fun x y t wr => ∃ t0 : Nat, t = iv t0 ∧ x = iv (cntP (ex, ey) (l.take t0)) ∧ y = iv (cntP (ex, ey) (A.take t0)) ∧ t0 ≤ k ∧ Grows wp wr) (fun _ _ t _ => 61 - (intOf t).toNat)
            case atStart => exact ⟨0, rfl, rfl, rfl, Nat.zero_le _, Grows.refl _⟩
            case round =>
              obtain ⟨t, rfl, rfl, rfl, ht, hg⟩ := hrel
              have GI := Lib.hid hg
              clear hg
              by_cases htk : t < k
              · obtain ⟨bl, ol, rfl, hbl, _, _⟩ := PL.out.at_ (i := t) (by rw [Hl.out]; exact htk)
                have G3 := Lib.hid (G.out.trans GI.out)
                obtain ⟨l1, l2⟩ := (PL.out.grows (G2.out.trans G3.out)).at_cell (i := t) (by rw [Hl.out]; exact htk)
                obtain ⟨s1, s2⟩ := (PA2.out.grows G3.out).at_cell (i := t) (by rw [HAL.out]; exact htk)
                obtain ⟨a1, a2⟩ := (PA2.out.grows G3.out).at_cell (i := j) (by rw [HAL.out]; exact hjk)
                rw [HEV.out] at a1 a2
                simp only at a1 a2
                have C1 := Lib.hid (cntP_succ (ex, ey) l t (by rw [Hl.out]; exact htk))
                have C2 := Lib.hid (cntP_succ (ex, ey) A t (by rw [HAL.out]; exact htk))
                have L1 := cntP_le (ex, ey) (l.take t)
                have L2 := cntP_le (ex, ey) (A.take t)
                rw [List.length_take] at L1 L2
                have L1' : cntP (ex, ey) (l.take t) ≤ 60 := by omega
                have L2' : cntP (ex, ey) (A.take t) ≤ 60 := by omega
                clear L1 L2
                generalize cntP (ex, ey) (l.take t) = c1 at L1' C1
                generalize cntP (ex, ey) (A.take t) = c2 at L2' C2
                generalize l.getD t (0, 0) = q at l1 l2 C1
                generalize A.getD t (0, 0) = r at s1 s2 C2
                obtain ⟨qx, qy⟩ := q
                obtain ⟨rx, ry⟩ := r
                simp only at l1 l2 s1 s2
                have ht60 : t < 60 := by omega
                rcases pair_cases qx qy ex ey with ⟨rfl, rfl⟩ | h1 | ⟨rfl, h1⟩
                · rcases pair_cases rx ry qx qy with ⟨he1, he2⟩ | h2 | ⟨he1, h2⟩
                  · subst he1
                    subst he2
                    go_wp2_with fail
                    go_quiet (fail)
                    go_wp2_with fail
                    go_quiet (fail)
                    go_wp2
                    refine ⟨⟨t + 1, by simp, by rw [C1.out]; simp, by rw [C2.out]; simp, by omega, GI.out.trans ⟨rfl, rfl, rfl, Nat.le_refl _, fun _ _ => rfl⟩⟩, by simp only [intOf]; omega⟩
                  · have b2 : (rx == qx) = false := by rw [beq_eq_false_iff_ne]; exact h2
                    go_wp2_with fail
                    go_quiet (fail)
                    go_wp2_with fail
                    go_quiet (fail)
                    go_wp2
                    refine ⟨⟨t + 1, by simp, by rw [C1.out]; simp, by rw [C2.out]; simp [h2], by omega, GI.out.trans ⟨rfl, rfl, rfl, Nat.le_refl _, fun _ _ => rfl⟩⟩, by simp only [intOf]; omega⟩
                  · have b2 : (ry == qy) = false := by rw [beq_eq_false_iff_ne]; exact h2
                    subst he1
                    go_wp2_with fail
                    go_quiet (fail)
                    go_wp2_with fail
                    go_quiet (fail)
                    go_wp2
                    refine ⟨⟨t + 1, by simp, by rw [C1.out]; simp, by rw [C2.out]; simp [h2], by omega, GI.out.trans ⟨rfl, rfl, rfl, Nat.le_refl _, fun _ _ => rfl⟩⟩, by simp only [intOf]; omega⟩
                · rcases pair_cases rx ry ex ey with ⟨he1, he2⟩ | h2 | ⟨he1, h2⟩
                  · have b1 : (qx == ex) = false := by rw [beq_eq_false_iff_ne]; exact h1
                    subst he1
                    subst he2
                    go_wp2_with fail
                    go_quiet (fail)
                    go_wp2_with fail
                    go_quiet (fail)
                    go_wp2
                    refine ⟨⟨t + 1, by simp, by rw [C1.out]; simp [h1], by rw [C2.out]; simp, by omega, GI.out.trans ⟨rfl, rfl, rfl, Nat.le_refl _, fun _ _ => rfl⟩⟩, by simp only [intOf]; omega⟩
                  · have b1 : (qx == ex) = false := by rw [beq_eq_false_iff_ne]; exact h1
                    have b2 : (rx == ex) = false := by rw [beq_eq_false_iff_ne]; exact h2
                    go_wp2_with fail
                    go_quiet (fail)
                    go_wp2_with fail
                    go_quiet (fail)
                    go_wp2
                    refine ⟨⟨t + 1, by simp, by rw [C1.out]; simp [h1], by rw [C2.out]; simp [h2], by omega, GI.out.trans ⟨rfl, rfl, rfl, Nat.le_refl _, fun _ _ => rfl⟩⟩, by simp only [intOf]; omega⟩
                  · have b1 : (qx == ex) = false := by rw [beq_eq_false_iff_ne]; exact h1
                    have b2 : (ry == ey) = false := by rw [beq_eq_false_iff_ne]; exact h2
                    subst he1
                    go_wp2_with fail
                    go_quiet (fail)
                    go_wp2_with fail
                    go_quiet (fail)
                    go_wp2
                    refine ⟨⟨t + 1, by simp, by rw [C1.out]; simp [h1], by rw [C2.out]; simp [h2], by omega, GI.out.trans ⟨rfl, rfl, rfl, Nat.le_refl _, fun _ _ => rfl⟩⟩, by simp only [intOf]; omega⟩
                · rcases pair_cases rx ry qx ey with ⟨he1, he2⟩ | h2 | ⟨he1, h2⟩
                  · have b1 : (qy == ey) = false := by rw [beq_eq_false_iff_ne]; exact h1
                    subst he1
                    subst he2
                    go_wp2_with fail
                    go_quiet (fail)
                    go_wp2_with fail
                    go_quiet (fail)
                    go_wp2
                    refine ⟨⟨t + 1, by simp, by rw [C1.out]; simp [h1], by rw [C2.out]; simp, by omega, GI.out.trans ⟨rfl, rfl, rfl, Nat.le_refl _, fun _ _ => rfl⟩⟩, by simp only [intOf]; omega⟩
                  · have b1 : (qy == ey) = false := by rw [beq_eq_false_iff_ne]; exact h1
                    have b2 : (rx == qx) = false := by rw [beq_eq_false_iff_ne]; exact h2
                    go_wp2_with fail
                    go_quiet (fail)
                    go_wp2_with fail
                    go_quiet (fail)
                    go_wp2
                    refine ⟨⟨t + 1, by simp, by rw [C1.out]; simp [h1], by rw [C2.out]; simp [h2], by omega, GI.out.trans ⟨rfl, rfl, rfl, Nat.le_refl _, fun _ _ => rfl⟩⟩, by simp only [intOf]; omega⟩
                  · have b1 : (qy == ey) = false := by rw [beq_eq_false_iff_ne]; exact h1
                    have b2 : (ry == ey) = false := by rw [beq_eq_false_iff_ne]; exact h2
                    subst he1
                    go_wp2_with fail
                    go_quiet (fail)
                    go_wp2_with fail
                    go_quiet (fail)
                    go_wp2
                    refine ⟨⟨t + 1, by simp, by rw [C1.out]; simp [h1], by rw [C2.out]; simp [h2], by omega, GI.out.trans ⟨rfl, rfl, rfl, Nat.le_refl _, fun _ _ => rfl⟩⟩, by simp only [intOf]; omega⟩
              · have hte : t = k := by omega
                subst hte
                have E1 : Hid (cntP (ex, ey) (l.take t) = cntP (ex, ey) (A.take t)) := Lib.hid (by
                  rw [List.take_of_length_le (by rw [Hl.out]; omega), List.take_of_length_le (by rw [HAL.out]; omega), AC.out])
                rw [← E1.out]
                have L1 := cntP_le (ex, ey) (l.take t)
                rw [List.length_take] at L1
                generalize cntP (ex, ey) (l.take t) = c1 at L1 ⊢
                have bcc : ((c1 : Int) == (c1 : Int)) = true := by simp
                clear L1
                have G3 := Lib.hid (G.out.trans GI.out)
                clear G GI
                go_wp2
                refine ⟨⟨j + 1, by simp, by omega, G3.out⟩, by simp only [intOf]; omega⟩
        · have hje : j = k := by omega
          subst hje
          have G4 := Lib.hid (G2.out.trans G.out)
          have LN : Hid (n.length ≤ 60) := Lib.hid (by rw [Hn.out]; exact B.out.2.1)
          have LM : Hid (m.length ≤ 60) := Lib.hid (by rw [Hm.out]; exact B.out.2.2)
          have G4s := G4.out.size
          clear AC AR PA2 PB PL HAL G G2
          go_wp2_with (at_builtin; first | (refine append_ints rfl _ _ 24 rfl wr.heap.size 3 i0 (.int .i64 0) 8 Try.underlying24 hi0 hi1 hi2 hi3 rfl (.slice (some ⟨wr.heap.size, 0, none⟩) 0 0) 0 [] rfl (own_empty (by decide)) n _ rfl (IN.out.grows (G4.out.al _)) (by have := LN.out; unfold maxLen; omega) (by have := LN.out; omega) (by simp only [World.size_alloc]; omega) ?_; intro v5 w5 hown hgr; have O5 := Lib.hid hown; have G5 := Lib.hid (hgr w (G4.out.al _) G4s); have G5' := Lib.hid (hgr wr ((Grows.refl _).al _) (Nat.le_refl _)); clear hown hgr; have G5s := G5'.out.size) | (refine append_ints rfl _ _ 24 rfl wr.heap.size 3 i0 (.int .i64 0) 8 Try.underlying24 hi0 hi1 hi2 hi3 rfl v5 _ _ rfl O5.out m _ rfl (IM.out.grows G5.out) (by have := LN.out; have := LM.out; unfold maxLen; omega) (by have := LN.out; have := LM.out; omega) G5s ?_; intro v6 w6 hown hgr; have O6 := Lib.hid hown; have G6 := Lib.hid (hgr w G5.out G4s); clear hown hgr))
          have N6 : Hid (IntsAt w6 v6 (n ++ m)) := Lib.hid (own_ints (by have := O6.out; simpa [List.length_append, List.map_append] using this) rfl (by have := LN.out; have := LM.out; rw [List.length_append]; omega))
          clear O5 O6 G5 G5' G5s G4s G4
          go_wp2_with fail
          refine (kn_any _).mono ?_
          rintro _ w7 ⟨rfl, hg⟩
          have G7 := Lib.hid (G6.out.trans hg)
          have N7 := Lib.hid (N6.out.grows hg)
          clear hg G6 N6
          go_wp2_with fail
          refine (uniq_any _ n _ (IN.out.grows G7.out) (by have := LN.out; omega)).mono ?_
          rintro _ w8 ⟨u1, rfl, hu, hg⟩
          have U1l : Hid ((uniqF (sortF ltI n)).length ≤ 60) := Lib.hid (by have := uniqF_len (sortF ltI n); rw [sortF_length] at this; have := LN.out; omega)
          have U1 := Lib.hid (own_ints hu rfl (by have := U1l.out; omega))
          have G8 := Lib.hid (G7.out.trans hg)
          have N8 := Lib.hid (N7.out.grows hg)
          clear hg hu G7 N7
          go_wp2_with fail
          refine (uniq_any _ m _ (IM.out.grows G8.out) (by have := LM.out; omega)).mono ?_
          rintro _ w9 ⟨u2, rfl, hu, hg⟩
          have U2l : Hid ((uniqF (sortF ltI m)).length ≤ 60) := Lib.hid (by have := uniqF_len (sortF ltI m); rw [sortF_length] at this; have := LM.out; omega)
          have U2 := Lib.hid (own_ints hu rfl (by have := U2l.out; omega))
          have U1' := Lib.hid (U1.out.grows hg)
          have G9 := Lib.hid (G8.out.trans hg)
          have N9 := Lib.hid (N8.out.grows hg)
          clear hg hu G8 N8 U1
          go_wp2_with fail
          refine (merge_any _ _ _ _ _ U1'.out U2.out (by have := U1l.out; omega) (by have := U2l.out; omega)).mono ?_
          rintro _ wa ⟨u3, rfl, hu, hg⟩
          have U3l : Hid ((mergeF ltI (uniqF (sortF ltI n)) (uniqF (sortF ltI m))).length ≤ 120) := Lib.hid (by rw [mergeF_length]; have := U1l.out; have := U2l.out; omega)
          have U3 := Lib.hid (own_ints hu rfl (by have := U3l.out; omega))
          have Ga := Lib.hid (G9.out.trans hg)
          have Na := Lib.hid (N9.out.grows hg)
          clear hg hu G9 N9 U1' U2
          go_wp2_with fail
          refine (uniq_any _ _ _ U3.out (by have := U3l.out; omega)).mono ?_
          rw [uniq_merge]
          rintro _ wb ⟨u4, rfl, hu, hg⟩
          have U4l : Hid ((uniqF (sortF ltI (n ++ m))).length ≤ 120) := Lib.hid (by have := uniqF_len (sortF ltI (n ++ m)); rw [sortF_length, List.length_append] at this; have := LN.out; have := LM.out; omega)
          have U4 := Lib.hid (own_ints hu rfl (by have := U4l.out; omega))
          have Gb := Lib.hid (Ga.out.trans hg)
          have Nb := Lib.hid (Na.out.grows hg)
          clear hg hu Ga Na U3
          go_wp2_with fail
          refine (uniq_any _ _ _ Nb.out (by rw [List.length_append]; have := LN.out; have := LM.out; omega)).mono ?_
          rintro _ wc ⟨u5, rfl, hu, hg⟩
          have U5 := Lib.hid (own_ints hu rfl (by have := U4l.out; omega))
          have U4' := Lib.hid (U4.out.grows hg)
          have Gc := Lib.hid (Gb.out.trans hg)
          clear hg hu Gb Nb U4
          go_wp2_with fail
          refine (Ints_any _ _ _ _ _ U4'.out U5.out).mono ?_
          rw [show decide (uniqF (sortF ltI (n ++ m)) = uniqF (sortF ltI (n ++ m))) = true by simp]
          rintro _ wd ⟨rfl, hg⟩
          have Gd := Lib.hid (Gc.out.trans hg)
          clear hg Gc U4' U5
          go_wp2
          go_ret
          exact ⟨rfl, Gd.out⟩
end Go.Proofs.Ytigbojdnaeaojaa
