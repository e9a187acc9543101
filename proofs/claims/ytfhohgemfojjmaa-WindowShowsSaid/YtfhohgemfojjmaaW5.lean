/-
  Layer 20: the tile that has a point.
-/
import Derived.Test.YtfhohgemfojjmaaW4
namespace Go.Proofs.Ytfhohgemfojjmaa
open Go.RowKit Go.Tab Go.WideShapes

set_option maxHeartbeats 2000000 in
theorem wof_any (z px py : Int) (w : World) : Calls Try.prog 20 #[.int .i64 z, pt px py] w (Ret (.tuple #[tl (ofT z px py).1 (ofT z px py).2.1 (ofT z px py).2.2, .bool (hasB z px py)]) w) := by
  have HS := Lib.hid (side_any z)
  have HW := Lib.hid (wide_any z)
  have HB : Hid (hasB z px py = (levelB z && decide (0 ≤ px) && decide (px ≤ 4096 * (wideN z : Int)) && decide (0 ≤ py) && decide (py ≤ 4096 * (wideN z : Int)))) := Lib.hid rfl
  have HT : Hid (ofT z px py = if hasB z px py = true then (z, min (px / 4096) ((wideN z : Int) - 1), min (py / 4096) ((wideN z : Int) - 1)) else (0, 0, 0)) := Lib.hid rfl
  have hn := wide_le z
  generalize ofT z px py = T at HT ⊢
  generalize hasB z px py = B at HT HB ⊢
  generalize levelB z = t at HB HS
  generalize wideN z = n at hn HB HS HW HT
  go_enter Try.func20, Try.ntmps20
  go_wp2_with fail
  refine (HS.out _).mono ?_
  rintro _ w1 ⟨rfl, rfl⟩
  cases t with
  | false =>
    have hBf : B = false := HB.out
    subst hBf
    have hT : T = (0, 0, 0) := HT.out
    subst hT
    go_wp2
    exact bodyPost_ret (v := .tuple #[tl 0 0 0, .bool false]) (by simp [results, Try.results20, go_sem]) rfl ⟨rfl, ((Grows.refl w).al _).al _⟩
  | true =>
    by_cases hw : 0 ≤ px ∧ px ≤ 4096 * (n : Int) ∧ 0 ≤ py ∧ py ≤ 4096 * (n : Int)
    · obtain ⟨x0, x1, y0, y1⟩ := hw
      have hBt : B = true := by rw [HB.out]; simp [x0, x1, y0, y1]
      subst hBt
      have hT : T = (z, min (px / 4096) ((n : Int) - 1), min (py / 4096) ((n : Int) - 1)) := HT.out
      subst hT
      clear HB HT
      go_wp2_with (go_at_call 32; refine (HW.out _).mono ?_; rintro _ w2 ⟨rfl, rfl⟩)
      all_goals
        exact bodyPost_ret (v := .tuple #[tl z (min (px / 4096) ((n : Int) - 1)) (min (py / 4096) ((n : Int) - 1)), .bool true]) (by simp [results, Try.results20, go_sem]; first | omega | (constructor <;> omega)) rfl ⟨rfl, ((Grows.refl w).al _).al _⟩
    · have hBf : B = false := by rw [HB.out, ← Bool.not_eq_true]; simp; omega
      subst hBf
      have hT : T = (0, 0, 0) := HT.out
      subst hT
      have HWW := Lib.hid hw
      clear HB HT hw
      go_wp2
      all_goals first
        | (exfalso; have := HWW.out; omega)
        | exact bodyPost_ret (v := .tuple #[tl 0 0 0, .bool false]) (by simp [results, Try.results20, go_sem]) rfl ⟨rfl, ((Grows.refl w).al _).al _⟩
end Go.Proofs.Ytfhohgemfojjmaa
