/-
  Layer 22: the middle of two places strictly between two bounds.
-/
import Derived.Test.YtlkihbehiojimaaK21
namespace Go.Proofs.Ytlkihbehiojimaa
open Go.RowKit Go.Tab

def strictB (p q a b c d low high : Int) : Bool := aboveB (2 * (p - low)) (q - p) a b c d && aboveB (2 * (high - p)) (p - q) a b c d
abbrev in24 (x : Int) : Prop := -16777216 ≤ x ∧ x ≤ 16777216

set_option maxRecDepth 100000 in
set_option maxHeartbeats 2000000 in
theorem strict_any (p q a b c d low high : Int) (w : World) (hp : in24 p) (hq : in24 q) (hl : in24 low) (hh : in24 high) (ha0 : 0 ≤ a) (hab : a ≤ b) (hb : 1 ≤ b) (hb2 : b ≤ 33554432) (hc0 : 0 ≤ c) (hcd : c ≤ d) (hd : 1 ≤ d) (hd2 : d ≤ 33554432) :
    Calls Try.prog 41 #[.int .i64 p, .int .i64 q, .int .i64 a, .int .i64 b, .int .i64 c, .int .i64 d, .int .i64 low, .int .i64 high] w (Ret (.bool (strictB p q a b c d low high)) w) := by
  obtain ⟨p1, p2⟩ := hp
  obtain ⟨q1, q2⟩ := hq
  obtain ⟨l1, l2⟩ := hl
  obtain ⟨h1, h2⟩ := hh
  have H1 := Lib.hid (fun w => above_any (2 * (p - low)) (q - p) a b c d w (by omega) (by omega) (by omega) (by omega) ha0 hab hb hb2 hc0 hcd hd hd2)
  have H2 := Lib.hid (fun w => above_any (2 * (high - p)) (p - q) a b c d w (by omega) (by omega) (by omega) (by omega) ha0 hab hb hb2 hc0 hcd hd hd2)
  have HE : Hid (strictB p q a b c d low high = (aboveB (2 * (p - low)) (q - p) a b c d && aboveB (2 * (high - p)) (p - q) a b c d)) := Lib.hid rfl
  generalize aboveB (2 * (p - low)) (q - p) a b c d = r1 at H1 HE
  generalize aboveB (2 * (high - p)) (p - q) a b c d = r2 at H2 HE
  clear ha0 hab hb hb2 hc0 hcd hd hd2
  go_enter Try.func41, Try.ntmps41
  go_wp2_with fail
  refine (H1.out _).mono ?_
  rintro _ w1 ⟨rfl, hg⟩
  have G1 := Lib.hid hg
  clear hg
  cases r1 with
  | false =>
    go_wp2
    go_ret
    exact ⟨ret_bool (by rw [HE.out]; rfl), G1.out⟩
  | true =>
    go_wp2_with fail
    refine (H2.out _).mono ?_
    rintro _ w2 ⟨rfl, hg⟩
    have G2 := Lib.hid (G1.out.trans hg)
    clear hg
    go_wp2
    go_ret
    exact ⟨ret_bool (by rw [HE.out]; rfl), G2.out⟩
end Go.Proofs.Ytlkihbehiojimaa
