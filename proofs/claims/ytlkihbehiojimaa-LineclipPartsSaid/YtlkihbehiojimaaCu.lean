/-
  A row of points, cut.
-/
import Derived.Test.YtlkihbehiojimaaE3n
namespace Go.Proofs.Ytlkihbehiojimaa
open Go.RowKit Go.Tab Go.WideShapes

theorem cut_slice (a : Option Addr) (n c : Nat) (w : World) (hnc : n ≤ c) (hac : a = none → c = 0) : Calls Try.prog 7 #[.slice a n c] w (Ret (.slice a (min n 40) c) w) := by
  cases a with
  | none =>
    have hc0 : c = 0 := hac rfl
    subst hc0
    have hn0 : n = 0 := by omega
    subst hn0
    clear hac hnc
    show Calls Try.prog 7 #[.slice none 0 0] w (Ret (.slice none 0 0) w)
    go_enter Try.func7, Try.ntmps7
    go_wp2
    go_ret
    exact ⟨rfl, Grows.refl w⟩
  | some ad =>
    have hm1 : min n 40 ≤ n := Nat.min_le_left _ _
    have hm : (if (40 : Int) < (n : Int) then (40 : Int) else (n : Int)) = ((min n 40 : Nat) : Int) := by split <;> omega
    generalize min n 40 = m at hm hm1 ⊢
    clear hac
    have hm2 : m ≤ c := by omega
    go_enter Try.func7, Try.ntmps7
    go_wp2
    go_ret
    exact ⟨rfl, Grows.refl w⟩

end Go.Proofs.Ytlkihbehiojimaa
