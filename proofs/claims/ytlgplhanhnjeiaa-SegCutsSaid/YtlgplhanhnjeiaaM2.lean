/-
  Layer 2: the library's exchange of two runs of cuts.
-/
import Derived.Test.YtlgplhanhnjeiaaM1
namespace Go.Proofs.Ytlgplhanhnjeiaa
open Go.RowKit Go.Tab Go.Sort

/-- Its places and what they hold behind an exchange of runs. -/
structure Swd (a b n : Nat) (d d' : Array CutB) : Prop where
  size : d'.size = d.size
  at_ : ∀ x, x < d.size → d'[x]! = d[swI a b n x]!
  perm : ∀ p q, p ≤ a → b + n ≤ q → q ≤ d.size → PermIn p q d d'
theorem Swd.zero (a b : Nat) (d : Array CutB) : Swd a b 0 d d := ⟨rfl, fun x _ => by rw [swI_zero], fun _ _ _ _ _ => permIn_refl _ _ _⟩
theorem Swd.step {a b n k : Nat} {d d' : Array CutB} (h : Swd a b k d d') (hk : k < n) (hab : a + n ≤ b) (hbn : b + n ≤ d.size) : Swd a b (k + 1) d (swp d' (a + k) (b + k)) where
  size := by rw [swp_size]; exact h.size
  at_ x hx := by
    have hs := h.size
    rw [swp_get d' (by omega) (by omega), swI_succ hk hab]
    split
    · rw [h.at_ _ (by omega)]
      congr 1
      unfold swI; rw [if_neg (by omega), if_neg (by omega)]
    · split
      · rw [h.at_ _ (by omega)]
        congr 1
        unfold swI; rw [if_neg (by omega), if_neg (by omega)]
      · exact h.at_ _ hx
  perm p q hp hq hs := permIn_trans _ _ _ _ _ (h.perm p q hp (by omega) hs) (swp_permIn _ _ _ _ _ (by omega) (by omega) (by omega) (by omega) (by rw [h.size]; exact hs))

abbrev fnC : Value := .func (.func 31) #[] #[]
set_option maxRecDepth 100000 in
set_option maxHeartbeats 4000000 in
theorem swapRange_any (g N cap a b n B : Nat) (d : Array CutB) (w : World) (h : w.ownsRow B 61 4 (.slice (some ⟨g, 0, none⟩) N cap) N (rowB d)) (hN : d.size = N) (hm : N ≤ 1000000) (hab : a + n ≤ b) (hbn : b + n ≤ N) :
    Calls Try.prog 47 #[.slice (some ⟨g, 0, none⟩) N cap, .int .i64 a, .int .i64 b, .int .i64 n, fnC] w fun e w' => e = .returned (.tuple #[]) ∧ ∃ d', Swd a b n d d' ∧ w'.ownsRow B 61 4 (.slice (some ⟨g, 0, none⟩) N cap) N (rowB d') ∧ w.grownBy w' (some g) := by
  have H := Lib.hid h
  have HN := Lib.hid hN
  have HAB := Lib.hid hab
  have HBN := Lib.hid hbn
  clear h hN
  go_enter Try.func47, Try.ntmps47
  go_wp2_with fail
  go_loopw [10] (fun v wr => ∃ (k : Nat) (dk : Array CutB), k ≤ n ∧ v = .int .i64 (k : Int) ∧ Hid (Swd a b k d dk) ∧ Hid (wr.ownsRow B 61 4 (.slice (some ⟨g, 0, none⟩) N cap) N (rowB dk)) ∧ Hid (w.grownBy wr (some g))) (fun i _ => n - (intOf i).toNat)
  case atStart => exact ⟨0, d, Nat.zero_le _, rfl, Lib.hid (Swd.zero _ _ _), H, Lib.hid (grown_self _ _)⟩
  case round =>
    obtain ⟨k, dk, hkn, rfl, HS, HO, HG⟩ := hrel
    by_cases hlt : k < n
    · have hak : a + k < N := by omega
      have hbk : b + k < N := by omega
      have HD := Lib.hid (HS.out.size.trans HN.out)
      obtain ⟨x0, x1, x2, x3⟩ := ownB_cells HO.out HD.out hak
      obtain ⟨y0, y1, y2, y3⟩ := ownB_cells HO.out HD.out hbk
      have f0 := HO.out.frozenAt ((a + k) * 4)
      have f1 := HO.out.frozenAt ((a + k) * 4 + 1)
      have f2 := HO.out.frozenAt ((a + k) * 4 + 2)
      have f3 := HO.out.frozenAt ((a + k) * 4 + 3)
      have g0 := HO.out.frozenAt ((b + k) * 4)
      have g1 := HO.out.frozenAt ((b + k) * 4 + 1)
      have g2 := HO.out.frozenAt ((b + k) * 4 + 2)
      have g3 := HO.out.frozenAt ((b + k) * 4 + 3)
      have hltz : (k : Int) < (n : Int) := by omega
      have SW := ownB_swp HO.out HD.out hak hbk
      have HS2 := Lib.hid (HS.out.step hlt HAB.out (by rw [HN.out]; exact HBN.out))
      obtain ⟨⟨⟨⟨pa, pb⟩, pf, pw⟩, hpo⟩, hp⟩ : ∃ c, c = dk[a + k]! := ⟨_, rfl⟩
      obtain ⟨⟨⟨⟨qa, qb⟩, qf, qw⟩, hqo⟩, hq⟩ : ∃ c, c = dk[b + k]! := ⟨_, rfl⟩
      rw [← hp] at x0 x1 x2 x3
      rw [← hq] at y0 y1 y2 y3
      rw [← hp, ← hq] at SW
      simp only at x0 x1 x2 x3 y0 y1 y2 y3
      have SW := Lib.hid SW
      have ea : ((a : Int) + (k : Int)).toNat = a + k := by omega
      have eb : ((b : Int) + (k : Int)).toNat = b + k := by omega
      have za : ((a : Int) + (k : Int)) < (N : Int) := by omega
      have zb : ((b : Int) + (k : Int)) < (N : Int) := by omega
      have za0 : 0 ≤ ((a : Int) + (k : Int)) := by omega
      have zb0 : 0 ≤ ((b : Int) + (k : Int)) := by omega
      clear hp hq
      generalize hA : a + k = A at *
      generalize hB : b + k = Bk at *
      have HA := Lib.hid hA
      have HB := Lib.hid hB
      clear hA hB
      go_wp2_with fail
      go_region
      have OW := Lib.hid (World.ownsRow.drew SW.out.1)
      have GW := Lib.hid (grownBy_trans' (grownBy_trans' HG.out SW.out.2) (grows_grownBy (Grows.refl _).dr _))
      clear x0 x1 x2 x3 y0 y1 y2 y3 f0 f1 f2 f3 g0 g1 g2 g3
      go_wp2
      exact ⟨⟨k + 1, swp dk A Bk, by omega, by simp, HS2, OW, GW⟩, by simp only [intOf]; omega⟩
    · obtain rfl : k = n := by omega
      go_wp2_with fail
      go_end0
      exact ⟨rfl, dk, HS.out, HO.out, HG.out⟩
end Go.Proofs.Ytlgplhanhnjeiaa
