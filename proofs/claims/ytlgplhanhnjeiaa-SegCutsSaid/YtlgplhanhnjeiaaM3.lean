/-
  Layer 2: the library's turn of two runs of cuts.
-/
import Derived.Test.YtlgplhanhnjeiaaM2
namespace Go.Proofs.Ytlgplhanhnjeiaa
open Go.RowKit Go.Tab Go.Sort

/-- Two runs are turned. -/
structure Rotd (a m b : Nat) (d d' : Array CutB) : Prop where
  size : d'.size = d.size
  at_ : ∀ x, x < d.size → d'[x]! = d[rotI a m b x]!
  perm : PermIn a b d d'
/-- What is left to turn. -/
structure RotI (a m b i j : Nat) (d dk : Array CutB) : Prop where
  size : dk.size = d.size
  at_ : ∀ x, x < d.size → dk[rotI (m - i) m (m + j) x]! = d[rotI a m b x]!
  perm : PermIn a b d dk
theorem RotI.start {a m b : Nat} {d : Array CutB} (ham : a ≤ m) (hmb : m ≤ b) : RotI a m b (m - a) (b - m) d d :=
  ⟨rfl, fun x _ => by rw [show m - (m - a) = a by omega, show m + (b - m) = b by omega], permIn_refl _ _ _⟩
theorem RotI.left {a m b i j : Nat} {d dk d' : Array CutB} (h : RotI a m b i j d dk) (hij : j < i) (him : i ≤ m - a) (ham : a ≤ m) (hjb : m + j ≤ b) (hb : b ≤ d.size) (s : Swd (m - i) m j dk d') : RotI a m b (i - j) j d d' where
  size := s.size.trans h.size
  at_ x hx := by
    rw [s.at_ _ (by rw [h.size]; exact rotI_lt (by omega) (by omega) (by omega) hx), rot_left hij (by omega)]
    exact h.at_ x hx
  perm := permIn_trans _ _ _ _ _ h.perm (s.perm a b (by omega) hjb (by rw [h.size]; exact hb))
theorem RotI.right {a m b i j : Nat} {d dk d' : Array CutB} (h : RotI a m b i j d dk) (hij : i < j) (him : i ≤ m - a) (ham : a ≤ m) (hjb : m + j ≤ b) (hb : b ≤ d.size) (s : Swd (m - i) (m + j - i) i dk d') : RotI a m b i (j - i) d d' where
  size := s.size.trans h.size
  at_ x hx := by
    rw [s.at_ _ (by rw [h.size]; exact rotI_lt (by omega) (by omega) (by omega) hx), rot_right hij (by omega)]
    exact h.at_ x hx
  perm := permIn_trans _ _ _ _ _ h.perm (s.perm a b (by omega) (by omega) (by rw [h.size]; exact hb))
theorem RotI.fin {a m b i : Nat} {d dk d' : Array CutB} (h : RotI a m b i i d dk) (him : i ≤ m - a) (ham : a ≤ m) (hjb : m + i ≤ b) (hb : b ≤ d.size) (s : Swd (m - i) m i dk d') : Rotd a m b d d' where
  size := s.size.trans h.size
  at_ x hx := by
    rw [s.at_ _ (by rw [h.size]; exact hx), rot_end (by omega)]
    exact h.at_ x hx
  perm := permIn_trans _ _ _ _ _ h.perm (s.perm a b (by omega) hjb (by rw [h.size]; exact hb))

set_option maxRecDepth 100000 in
set_option maxHeartbeats 4000000 in
theorem rotate_any (g N cap a m b B : Nat) (d : Array CutB) (w : World) (h : w.ownsRow B 61 4 (.slice (some ⟨g, 0, none⟩) N cap) N (rowB d)) (hN : d.size = N) (hm : N ≤ 1000000) (ham : a < m) (hmb : m < b) (hb : b ≤ N) :
    Calls Try.prog 46 #[.slice (some ⟨g, 0, none⟩) N cap, .int .i64 a, .int .i64 m, .int .i64 b, fnC] w fun e w' => e = .returned (.tuple #[]) ∧ ∃ d', Rotd a m b d d' ∧ w'.ownsRow B 61 4 (.slice (some ⟨g, 0, none⟩) N cap) N (rowB d') ∧ w.grownBy w' (some g) := by
  have H := Lib.hid h
  have HN := Lib.hid hN
  clear h hN
  go_enter Try.func46, Try.ntmps46
  go_wp2_with fail
  go_loopw [10, 11] (fun vi vj wr => ∃ (i j : Nat) (dk : Array CutB), 0 < i ∧ 0 < j ∧ i ≤ m - a ∧ m + j ≤ b ∧ vi = .int .i64 (i : Int) ∧ vj = .int .i64 (j : Int) ∧ Hid (RotI a m b i j d dk) ∧ Hid (wr.ownsRow B 61 4 (.slice (some ⟨g, 0, none⟩) N cap) N (rowB dk)) ∧ Hid (w.grownBy wr (some g))) (fun i j _ => (intOf i).toNat + (intOf j).toNat)
  case atStart => exact ⟨m - a, b - m, d, by omega, by omega, by omega, by omega, by congr 1; omega, by congr 1; omega, Lib.hid (RotI.start (by omega) (by omega)), H, Lib.hid (grown_self _ _)⟩
  case round =>
    obtain ⟨i, j, dk, hi0, hj0, him, hjb, rfl, rfl, HR, HO, HG⟩ := hrel
    have HD := Lib.hid (HR.out.size.trans HN.out)
    rcases Nat.lt_trichotomy j i with hij | hij | hij
    · have hz : (j : Int) < (i : Int) := by omega
      have hz2 : ¬ (i : Int) = (j : Int) := by omega
      have HS : Hid (Calls Try.prog 47 #[.slice (some ⟨g, 0, none⟩) N cap, .int .i64 ((m : Int) - (i : Int)), .int .i64 m, .int .i64 j, fnC] wr _) := Lib.hid (by
        rw [show (m : Int) - (i : Int) = ((m - i : Nat) : Int) by omega]
        exact swapRange_any g N cap (m - i) m j B dk wr HO.out HD.out hm (by omega) (by omega))
      go_wp2_with (go_at_call 47; refine HS.out.mono ?_; rintro _ w2 ⟨rfl, d', hS, hO, hg⟩)
      exact ⟨⟨i - j, j, d', by omega, hj0, by omega, hjb, by congr 1; omega, rfl, Lib.hid (HR.out.left hij him (by omega) hjb (by rw [HN.out]; exact hb) hS), Lib.hid hO, Lib.hid (grownBy_trans' HG.out hg)⟩, by simp only [intOf]; omega⟩
    · subst hij
      have HS : Hid (Calls Try.prog 47 #[.slice (some ⟨g, 0, none⟩) N cap, .int .i64 ((m : Int) - (j : Int)), .int .i64 m, .int .i64 j, fnC] wr _) := Lib.hid (by
        rw [show (m : Int) - (j : Int) = ((m - j : Nat) : Int) by omega]
        exact swapRange_any g N cap (m - j) m j B dk wr HO.out HD.out hm (by omega) (by omega))
      go_wp2_with fail
      refine HS.out.mono ?_
      rintro _ w2 ⟨rfl, d', hS, hO, hg⟩
      go_wp2
      go_end0
      exact ⟨rfl, d', HR.out.fin him (by omega) hjb (by rw [HN.out]; exact hb) hS, hO, grownBy_trans' HG.out hg⟩
    · have hz : ¬ (j : Int) < (i : Int) := by omega
      have hz2 : ¬ (i : Int) = (j : Int) := by omega
      have HS : Hid (Calls Try.prog 47 #[.slice (some ⟨g, 0, none⟩) N cap, .int .i64 ((m : Int) - (i : Int)), .int .i64 ((m : Int) + (j : Int) - (i : Int)), .int .i64 i, fnC] wr _) := Lib.hid (by
        rw [show (m : Int) - (i : Int) = ((m - i : Nat) : Int) by omega, show (m : Int) + (j : Int) - (i : Int) = ((m + j - i : Nat) : Int) by omega]
        exact swapRange_any g N cap (m - i) (m + j - i) i B dk wr HO.out HD.out hm (by omega) (by omega))
      go_wp2_with (go_at_call 47; refine HS.out.mono ?_; rintro _ w2 ⟨rfl, d', hS, hO, hg⟩)
      exact ⟨⟨i, j - i, d', hi0, by omega, him, by omega, rfl, by congr 1; omega, Lib.hid (HR.out.right hij him (by omega) hjb (by rw [HN.out]; exact hb) hS), Lib.hid hO, Lib.hid (grownBy_trans' HG.out hg)⟩, by simp only [intOf]; omega⟩
end Go.Proofs.Ytlgplhanhnjeiaa
