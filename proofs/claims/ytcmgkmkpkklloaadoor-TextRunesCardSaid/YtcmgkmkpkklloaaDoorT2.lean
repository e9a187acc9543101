/-
  Layer 9: the document's first rune.
-/
import Derived.Test.YtcmgkmkpkklloaaDoorT1
import Derived.Shelf.Unicode.DecodeAny
namespace Go.Proofs.YtcmgkmkpkklloaaDoor
open Go.RowKit Go.Tab Go.WideShapes

theorem val_bd {s : ByteArray} {i r k : Nat} (hk : 1 ≤ k) (hk4 : k ≤ 4) (hr : r < 32) (hb : ∀ j, 1 ≤ j → j < k → contB (B s (i + j))) : 0 ≤ valF s i r k ∧ valF s i r k ≤ 8388607 := by
  unfold contB at hb
  have hk' : k = 1 ∨ k = 2 ∨ k = 3 ∨ k = 4 := by omega
  rcases hk' with rfl | rfl | rfl | rfl
  · show 0 ≤ (r : Int) ∧ (r : Int) ≤ _; omega
  · have c1 := hb 1 (by omega) (by omega)
    show 0 ≤ 64 * (r : Int) + (B s (i + 1) : Int) - 128 ∧ 64 * (r : Int) + (B s (i + 1) : Int) - 128 ≤ _; omega
  · have c1 := hb 1 (by omega) (by omega)
    have c2 := hb 2 (by omega) (by omega)
    show 0 ≤ 64 * (64 * (r : Int) + (B s (i + 1) : Int) - 128) + (B s (i + 2) : Int) - 128 ∧ 64 * (64 * (r : Int) + (B s (i + 1) : Int) - 128) + (B s (i + 2) : Int) - 128 ≤ _; omega
  · have c1 := hb 1 (by omega) (by omega)
    have c2 := hb 2 (by omega) (by omega)
    have c3 := hb 3 (by omega) (by omega)
    show 0 ≤ 64 * (64 * (64 * (r : Int) + (B s (i + 1) : Int) - 128) + (B s (i + 2) : Int) - 128) + (B s (i + 3) : Int) - 128 ∧ 64 * (64 * (64 * (r : Int) + (B s (i + 1) : Int) - 128) + (B s (i + 2) : Int) - 128) + (B s (i + 3) : Int) - 128 ≤ _; omega

set_option maxRecDepth 100000 in
set_option maxHeartbeats 8000000 in
theorem first_any (s : ByteArray) (w : World) (hs : s.size ≤ 9223372036854775807) : Calls Tryd.prog 21 #[.string s] w (Ret (.tuple #[.int .i64 (firstF s 0).1, .int .i64 (firstF s 0).2]) w) := by
  by_cases h0 : s.size = 0
  · have HV : Hid (firstF s 0 = (0, 0)) := Lib.hid (by unfold firstF; rw [if_neg (by omega)])
    go_enter Tryd.func21, Tryd.ntmps21
    go_wp2
    go_ret2
    exact ⟨by rw [HV.out]; rfl, Grows.refl _⟩
  · have hz0 : (0 : Int) < (s.size : Int) := by omega
    obtain ⟨x0, hx0⟩ : ∃ x0, s.get! 0 = x0 := ⟨_, rfl⟩
    have hs0 : s[0]'(by omega) = x0 := by rw [← hx0]; exact (Utf8W.get!_of_lt s 0 (by omega)).symm
    have h8 := x0.toNat_lt
    by_cases ha : B s 0 < 128
    · have HV : Hid (firstF s 0 = (B s 0, 1)) := Lib.hid (first_ascii (by omega) ha)
      unfold B at ha HV
      rw [hx0] at ha HV
      have haz : (x0.toNat : Int) < 128 := by omega
      go_enter Tryd.func21, Tryd.ntmps21
      go_wp2
      go_ret2
      exact ⟨by rw [HV.out]; rfl, Grows.refl _⟩
    · rcases cls_form (B s 0) (by omega) (B_lt s 0) with ⟨h1, h2⟩ | ⟨h1, h2⟩ | ⟨h1, h2⟩ | ⟨h1, h2⟩
      · have HV : Hid (firstF s 0 = (0, 0)) := Lib.hid (first_none (by omega) (by omega) h1 (.inl rfl))
        unfold B at ha h2
        rw [hx0] at ha h2
        clear h1
        rcases h2 with h2 | h2
        all_goals
          go_enter Tryd.func21, Tryd.ntmps21
          go_wp2
          go_ret2
          exact ⟨by rw [HV.out]; rfl, Grows.refl _⟩
      · have hcl : Hid (cls (B s 0) = (2, B s 0 - 192, 128)) := Lib.hid h1
        have hi8 : 0 < s.size := by omega
        by_cases hsz : s.size < 2
        · have HV : Hid (firstF s 0 = (0, 0)) := Lib.hid (first_none hi8 (by omega) hcl.out (.inr (by omega)))
          have hsz' : (s.size : Int) < 2 := by omega
          obtain ⟨g1, g2⟩ := h2
          clear hcl h1 hi8
          unfold B at g1 g2 ha
          rw [hx0] at g1 g2 ha
          go_enter Tryd.func21, Tryd.ntmps21
          go_wp2
          go_ret2
          exact ⟨by rw [HV.out]; rfl, Grows.refl _⟩
        · have hsz' : ¬ (s.size : Int) < 2 := by omega
          have HCUT := Lib.hid (fun k (h1 : 1 ≤ k) (h2 : k < 2) (h3 : ¬ contB (B s (0 + k))) => first_cut hi8 (by omega) hcl.out h1 h2 h3)
          have HFIN := Lib.hid (fun hb => first_fin hi8 (by omega) hcl.out (by omega) (by omega) hb)
          have HBD := Lib.hid (fun k (h1 : 1 ≤ k) (h2 : k ≤ 2) hb => val_bd (s := s) (i := 0) (r := B s 0 - 192) h1 (by omega) (by omega) hb)
          have hr0 : Hid (valF s 0 (B s 0 - 192) 1 = ((B s 0 : Nat) : Int) - 192) := Lib.hid (by show ((B s 0 - 192 : Nat) : Int) = _; omega)
          obtain ⟨g1, g2⟩ := h2
          have HVS := Lib.hid (fun k (h : 1 ≤ k) => valF_succ (s := s) (i := 0) (r := B s 0 - 192) h)
          generalize valF s 0 (B s 0 - 192) = vf at HFIN HBD hr0 HVS
          clear hcl h1
          have HXB : Hid (B s 0 = x0.toNat) := Lib.hid (by unfold B; rw [hx0])
          rw [HXB.out] at g1 g2 ha hr0
          clear HXB
          generalize firstF s 0 = F at HCUT HFIN ⊢
          go_enter Tryd.func21, Tryd.ntmps21
          go_wp2
          go_loopw [6, 8] (fun r i wr => ∃ k : Nat, 1 ≤ k ∧ k ≤ 2 ∧ r = .int .i64 (vf k) ∧ i = .int .i64 (k : Int) ∧ Hid (∀ j, 1 ≤ j → j < k → contB (B s (0 + j))) ∧ wr = w) (fun _ i _ => 2 - (intOf i).toNat)
          case atStart => exact ⟨1, Nat.le_refl _, by omega, by rw [hr0.out], rfl, Lib.hid (fun j h1 h2 => by omega), rfl⟩
          case round =>
            obtain ⟨k, hk1, hkn, rfl, rfl, HG, hww⟩ := hrel
            subst hww
            obtain ⟨v1, v2⟩ := HBD.out k hk1 hkn HG.out
            by_cases hlt : k < 2
            · have hltz : (k : Int) < 2 := by omega
              have hks : k < s.size := by omega
              have hksz : (k : Int) < (s.size : Int) := by omega
              obtain ⟨y, hy⟩ : ∃ y, s.get! k = y := ⟨_, rfl⟩
              have hsy : s[k]'hks = y := by rw [← hy]; exact (Utf8W.get!_of_lt s k hks).symm
              have HBY : Hid (B s (0 + k) = y.toNat) := Lib.hid (by rw [Nat.zero_add]; unfold B; rw [hy])
              have hy8 := y.toNat_lt
              have HVK := Lib.hid (HVS.out k hk1)
              have HC := Lib.hid (HCUT.out k hk1 hlt)
              rw [HBY.out] at HVK HC
              clear hy
              by_cases hb1 : y.toNat < 128
              · have hF := HC.out (by unfold contB; omega)
                subst hF
                have hb1' : (y.toNat : Int) < 128 := by omega
                go_wp2
                go_ret2
                exact ⟨rfl, Grows.refl _⟩
              · by_cases hb2 : 192 ≤ y.toNat
                · have hF := HC.out (by unfold contB; omega)
                  subst hF
                  have hb1' : ¬ (y.toNat : Int) < 128 := by omega
                  have hb2' : (192 : Int) ≤ (y.toNat : Int) := by omega
                  go_wp2
                  go_ret2
                  exact ⟨rfl, Grows.refl _⟩
                · have hb1' : ¬ (y.toNat : Int) < 128 := by omega
                  have hb2' : ¬ (192 : Int) ≤ (y.toNat : Int) := by omega
                  have HG2 : Hid (∀ j, 1 ≤ j → j < k + 1 → contB (B s (0 + j))) := Lib.hid (fun j h1 h2 => by
                    rcases Nat.lt_or_ge j k with h3 | h3
                    · exact HG.out j h1 h3
                    · obtain rfl : j = k := by omega
                      rw [HBY.out]; unfold contB; omega)
                  go_wp2
                  exact ⟨⟨k + 1, by omega, by omega, by rw [HVK.out], by simp, HG2, trivial⟩, by simp only [intOf]; omega⟩
            · obtain rfl : k = 2 := by omega
              obtain ⟨u1, u2, hF⟩ := HFIN.out HG.out
              obtain ⟨v, hv⟩ : ∃ v, v = vf 2 := ⟨_, rfl⟩
              rw [← hv] at u1 u2 hF v1 v2 ⊢
              have HF := Lib.hid hF
              clear hF hv
              by_cases q1 : v < 128
              · have hF := HF.out.trans (if_pos (.inl (by omega)))
                subst hF
                clear HF
                go_wp2
                go_ret2
                exact ⟨rfl, Grows.refl _⟩
              · by_cases q2 : 1114111 < v
                · have hF := HF.out.trans (if_pos (.inr (.inl q2)))
                  subst hF
                  clear HF
                  go_wp2
                  go_ret2
                  exact ⟨rfl, Grows.refl _⟩
                · by_cases q3 : 55296 ≤ v
                  · by_cases q4 : v ≤ 57343
                    · have hF := HF.out.trans (if_pos (.inr (.inr ⟨q3, q4⟩)))
                      subst hF
                      clear HF
                      go_wp2
                      go_ret2
                      exact ⟨rfl, Grows.refl _⟩
                    · have hF := HF.out.trans (if_neg (by omega))
                      subst hF
                      clear HF
                      go_wp2
                      go_ret2
                      refine ⟨?_, Grows.refl _⟩
                      rw [Int.max_eq_left u1]
                      rfl
                  · have hF := HF.out.trans (if_neg (by omega))
                    subst hF
                    clear HF
                    go_wp2
                    go_ret2
                    refine ⟨?_, Grows.refl _⟩
                    rw [Int.max_eq_left u1]
                    rfl
      · have hcl : Hid (cls (B s 0) = (3, B s 0 - 224, 2048)) := Lib.hid h1
        have hi8 : 0 < s.size := by omega
        by_cases hsz : s.size < 3
        · have HV : Hid (firstF s 0 = (0, 0)) := Lib.hid (first_none hi8 (by omega) hcl.out (.inr (by omega)))
          have hsz' : (s.size : Int) < 3 := by omega
          obtain ⟨g1, g2⟩ := h2
          clear hcl h1 hi8
          unfold B at g1 g2 ha
          rw [hx0] at g1 g2 ha
          go_enter Tryd.func21, Tryd.ntmps21
          go_wp2
          go_ret2
          exact ⟨by rw [HV.out]; rfl, Grows.refl _⟩
        · have hsz' : ¬ (s.size : Int) < 3 := by omega
          have HCUT := Lib.hid (fun k (h1 : 1 ≤ k) (h2 : k < 3) (h3 : ¬ contB (B s (0 + k))) => first_cut hi8 (by omega) hcl.out h1 h2 h3)
          have HFIN := Lib.hid (fun hb => first_fin hi8 (by omega) hcl.out (by omega) (by omega) hb)
          have HBD := Lib.hid (fun k (h1 : 1 ≤ k) (h2 : k ≤ 3) hb => val_bd (s := s) (i := 0) (r := B s 0 - 224) h1 (by omega) (by omega) hb)
          have hr0 : Hid (valF s 0 (B s 0 - 224) 1 = ((B s 0 : Nat) : Int) - 224) := Lib.hid (by show ((B s 0 - 224 : Nat) : Int) = _; omega)
          obtain ⟨g1, g2⟩ := h2
          have HVS := Lib.hid (fun k (h : 1 ≤ k) => valF_succ (s := s) (i := 0) (r := B s 0 - 224) h)
          generalize valF s 0 (B s 0 - 224) = vf at HFIN HBD hr0 HVS
          clear hcl h1
          have HXB : Hid (B s 0 = x0.toNat) := Lib.hid (by unfold B; rw [hx0])
          rw [HXB.out] at g1 g2 ha hr0
          clear HXB
          generalize firstF s 0 = F at HCUT HFIN ⊢
          go_enter Tryd.func21, Tryd.ntmps21
          go_wp2
          go_loopw [6, 8] (fun r i wr => ∃ k : Nat, 1 ≤ k ∧ k ≤ 3 ∧ r = .int .i64 (vf k) ∧ i = .int .i64 (k : Int) ∧ Hid (∀ j, 1 ≤ j → j < k → contB (B s (0 + j))) ∧ wr = w) (fun _ i _ => 3 - (intOf i).toNat)
          case atStart => exact ⟨1, Nat.le_refl _, by omega, by rw [hr0.out], rfl, Lib.hid (fun j h1 h2 => by omega), rfl⟩
          case round =>
            obtain ⟨k, hk1, hkn, rfl, rfl, HG, hww⟩ := hrel
            subst hww
            obtain ⟨v1, v2⟩ := HBD.out k hk1 hkn HG.out
            by_cases hlt : k < 3
            · have hltz : (k : Int) < 3 := by omega
              have hks : k < s.size := by omega
              have hksz : (k : Int) < (s.size : Int) := by omega
              obtain ⟨y, hy⟩ : ∃ y, s.get! k = y := ⟨_, rfl⟩
              have hsy : s[k]'hks = y := by rw [← hy]; exact (Utf8W.get!_of_lt s k hks).symm
              have HBY : Hid (B s (0 + k) = y.toNat) := Lib.hid (by rw [Nat.zero_add]; unfold B; rw [hy])
              have hy8 := y.toNat_lt
              have HVK := Lib.hid (HVS.out k hk1)
              have HC := Lib.hid (HCUT.out k hk1 hlt)
              rw [HBY.out] at HVK HC
              clear hy
              by_cases hb1 : y.toNat < 128
              · have hF := HC.out (by unfold contB; omega)
                subst hF
                have hb1' : (y.toNat : Int) < 128 := by omega
                go_wp2
                go_ret2
                exact ⟨rfl, Grows.refl _⟩
              · by_cases hb2 : 192 ≤ y.toNat
                · have hF := HC.out (by unfold contB; omega)
                  subst hF
                  have hb1' : ¬ (y.toNat : Int) < 128 := by omega
                  have hb2' : (192 : Int) ≤ (y.toNat : Int) := by omega
                  go_wp2
                  go_ret2
                  exact ⟨rfl, Grows.refl _⟩
                · have hb1' : ¬ (y.toNat : Int) < 128 := by omega
                  have hb2' : ¬ (192 : Int) ≤ (y.toNat : Int) := by omega
                  have HG2 : Hid (∀ j, 1 ≤ j → j < k + 1 → contB (B s (0 + j))) := Lib.hid (fun j h1 h2 => by
                    rcases Nat.lt_or_ge j k with h3 | h3
                    · exact HG.out j h1 h3
                    · obtain rfl : j = k := by omega
                      rw [HBY.out]; unfold contB; omega)
                  go_wp2
                  exact ⟨⟨k + 1, by omega, by omega, by rw [HVK.out], by simp, HG2, trivial⟩, by simp only [intOf]; omega⟩
            · obtain rfl : k = 3 := by omega
              obtain ⟨u1, u2, hF⟩ := HFIN.out HG.out
              obtain ⟨v, hv⟩ : ∃ v, v = vf 3 := ⟨_, rfl⟩
              rw [← hv] at u1 u2 hF v1 v2 ⊢
              have HF := Lib.hid hF
              clear hF hv
              by_cases q1 : v < 2048
              · have hF := HF.out.trans (if_pos (.inl (by omega)))
                subst hF
                clear HF
                go_wp2
                go_ret2
                exact ⟨rfl, Grows.refl _⟩
              · by_cases q2 : 1114111 < v
                · have hF := HF.out.trans (if_pos (.inr (.inl q2)))
                  subst hF
                  clear HF
                  go_wp2
                  go_ret2
                  exact ⟨rfl, Grows.refl _⟩
                · by_cases q3 : 55296 ≤ v
                  · by_cases q4 : v ≤ 57343
                    · have hF := HF.out.trans (if_pos (.inr (.inr ⟨q3, q4⟩)))
                      subst hF
                      clear HF
                      go_wp2
                      go_ret2
                      exact ⟨rfl, Grows.refl _⟩
                    · have hF := HF.out.trans (if_neg (by omega))
                      subst hF
                      clear HF
                      go_wp2
                      go_ret2
                      refine ⟨?_, Grows.refl _⟩
                      rw [Int.max_eq_left u1]
                      rfl
                  · have hF := HF.out.trans (if_neg (by omega))
                    subst hF
                    clear HF
                    go_wp2
                    go_ret2
                    refine ⟨?_, Grows.refl _⟩
                    rw [Int.max_eq_left u1]
                    rfl
      · have hcl : Hid (cls (B s 0) = (4, B s 0 - 240, 65536)) := Lib.hid h1
        have hi8 : 0 < s.size := by omega
        by_cases hsz : s.size < 4
        · have HV : Hid (firstF s 0 = (0, 0)) := Lib.hid (first_none hi8 (by omega) hcl.out (.inr (by omega)))
          have hsz' : (s.size : Int) < 4 := by omega
          obtain ⟨g1, g2⟩ := h2
          clear hcl h1 hi8
          unfold B at g1 g2 ha
          rw [hx0] at g1 g2 ha
          go_enter Tryd.func21, Tryd.ntmps21
          go_wp2
          go_ret2
          exact ⟨by rw [HV.out]; rfl, Grows.refl _⟩
        · have hsz' : ¬ (s.size : Int) < 4 := by omega
          have HCUT := Lib.hid (fun k (h1 : 1 ≤ k) (h2 : k < 4) (h3 : ¬ contB (B s (0 + k))) => first_cut hi8 (by omega) hcl.out h1 h2 h3)
          have HFIN := Lib.hid (fun hb => first_fin hi8 (by omega) hcl.out (by omega) (by omega) hb)
          have HBD := Lib.hid (fun k (h1 : 1 ≤ k) (h2 : k ≤ 4) hb => val_bd (s := s) (i := 0) (r := B s 0 - 240) h1 (by omega) (by omega) hb)
          have hr0 : Hid (valF s 0 (B s 0 - 240) 1 = ((B s 0 : Nat) : Int) - 240) := Lib.hid (by show ((B s 0 - 240 : Nat) : Int) = _; omega)
          obtain ⟨g1, g2⟩ := h2
          have HVS := Lib.hid (fun k (h : 1 ≤ k) => valF_succ (s := s) (i := 0) (r := B s 0 - 240) h)
          generalize valF s 0 (B s 0 - 240) = vf at HFIN HBD hr0 HVS
          clear hcl h1
          have HXB : Hid (B s 0 = x0.toNat) := Lib.hid (by unfold B; rw [hx0])
          rw [HXB.out] at g1 g2 ha hr0
          clear HXB
          generalize firstF s 0 = F at HCUT HFIN ⊢
          go_enter Tryd.func21, Tryd.ntmps21
          go_wp2
          go_loopw [6, 8] (fun r i wr => ∃ k : Nat, 1 ≤ k ∧ k ≤ 4 ∧ r = .int .i64 (vf k) ∧ i = .int .i64 (k : Int) ∧ Hid (∀ j, 1 ≤ j → j < k → contB (B s (0 + j))) ∧ wr = w) (fun _ i _ => 4 - (intOf i).toNat)
          case atStart => exact ⟨1, Nat.le_refl _, by omega, by rw [hr0.out], rfl, Lib.hid (fun j h1 h2 => by omega), rfl⟩
          case round =>
            obtain ⟨k, hk1, hkn, rfl, rfl, HG, hww⟩ := hrel
            subst hww
            obtain ⟨v1, v2⟩ := HBD.out k hk1 hkn HG.out
            by_cases hlt : k < 4
            · have hltz : (k : Int) < 4 := by omega
              have hks : k < s.size := by omega
              have hksz : (k : Int) < (s.size : Int) := by omega
              obtain ⟨y, hy⟩ : ∃ y, s.get! k = y := ⟨_, rfl⟩
              have hsy : s[k]'hks = y := by rw [← hy]; exact (Utf8W.get!_of_lt s k hks).symm
              have HBY : Hid (B s (0 + k) = y.toNat) := Lib.hid (by rw [Nat.zero_add]; unfold B; rw [hy])
              have hy8 := y.toNat_lt
              have HVK := Lib.hid (HVS.out k hk1)
              have HC := Lib.hid (HCUT.out k hk1 hlt)
              rw [HBY.out] at HVK HC
              clear hy
              by_cases hb1 : y.toNat < 128
              · have hF := HC.out (by unfold contB; omega)
                subst hF
                have hb1' : (y.toNat : Int) < 128 := by omega
                go_wp2
                go_ret2
                exact ⟨rfl, Grows.refl _⟩
              · by_cases hb2 : 192 ≤ y.toNat
                · have hF := HC.out (by unfold contB; omega)
                  subst hF
                  have hb1' : ¬ (y.toNat : Int) < 128 := by omega
                  have hb2' : (192 : Int) ≤ (y.toNat : Int) := by omega
                  go_wp2
                  go_ret2
                  exact ⟨rfl, Grows.refl _⟩
                · have hb1' : ¬ (y.toNat : Int) < 128 := by omega
                  have hb2' : ¬ (192 : Int) ≤ (y.toNat : Int) := by omega
                  have HG2 : Hid (∀ j, 1 ≤ j → j < k + 1 → contB (B s (0 + j))) := Lib.hid (fun j h1 h2 => by
                    rcases Nat.lt_or_ge j k with h3 | h3
                    · exact HG.out j h1 h3
                    · obtain rfl : j = k := by omega
                      rw [HBY.out]; unfold contB; omega)
                  go_wp2
                  exact ⟨⟨k + 1, by omega, by omega, by rw [HVK.out], by simp, HG2, trivial⟩, by simp only [intOf]; omega⟩
            · obtain rfl : k = 4 := by omega
              obtain ⟨u1, u2, hF⟩ := HFIN.out HG.out
              obtain ⟨v, hv⟩ : ∃ v, v = vf 4 := ⟨_, rfl⟩
              rw [← hv] at u1 u2 hF v1 v2 ⊢
              have HF := Lib.hid hF
              clear hF hv
              by_cases q1 : v < 65536
              · have hF := HF.out.trans (if_pos (.inl (by omega)))
                subst hF
                clear HF
                go_wp2
                go_ret2
                exact ⟨rfl, Grows.refl _⟩
              · by_cases q2 : 1114111 < v
                · have hF := HF.out.trans (if_pos (.inr (.inl q2)))
                  subst hF
                  clear HF
                  go_wp2
                  go_ret2
                  exact ⟨rfl, Grows.refl _⟩
                · by_cases q3 : 55296 ≤ v
                  · by_cases q4 : v ≤ 57343
                    · have hF := HF.out.trans (if_pos (.inr (.inr ⟨q3, q4⟩)))
                      subst hF
                      clear HF
                      go_wp2
                      go_ret2
                      exact ⟨rfl, Grows.refl _⟩
                    · have hF := HF.out.trans (if_neg (by omega))
                      subst hF
                      clear HF
                      go_wp2
                      go_ret2
                      refine ⟨?_, Grows.refl _⟩
                      rw [Int.max_eq_left u1]
                      rfl
                  · have hF := HF.out.trans (if_neg (by omega))
                    subst hF
                    clear HF
                    go_wp2
                    go_ret2
                    refine ⟨?_, Grows.refl _⟩
                    rw [Int.max_eq_left u1]
                    rfl
end Go.Proofs.YtcmgkmkpkklloaaDoor
