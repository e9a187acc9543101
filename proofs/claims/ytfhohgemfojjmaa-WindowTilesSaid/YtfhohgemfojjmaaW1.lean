/-
  Layer 20: tiles, level by level.
-/
import Derived.Test.YtfhohgemfojjmaaBr
import Derived.Deep.QuietTactic
import Derived.BigQuiet
namespace Go.Proofs.Ytfhohgemfojjmaa
open Go.RowKit Go.Tab Go.WideShapes

/-- How many tiles a level has in each direction. -/
def wideN (z : Int) : Nat := if z = 0 then 1 else if z = 1 then 2 else if z = 2 then 4 else if z = 3 then 8 else if z = 4 then 16 else 0
/-- A call that leaves the world as it is. -/
def QRet (v : Value) (w : World) (e : Ending) (w' : World) : Prop := e = .returned v ∧ w' = w
theorem QRet.ret {P : Program} {f : FuncId} {args : Array Value} {w : World} {v : Value} (h : Calls P f args w (QRet v w)) : Calls P f args w (Ret v w) := h.mono fun _ _ ⟨he, hw⟩ => ⟨he, by rw [hw]; exact Grows.refl _⟩
theorem QRet.quiet {P : Program} {f : FuncId} {args : Array Value} {w : World} {n : Nat} {v : Value} (h : Calls P f args (w.drewN n) (QRet v (w.drewN n))) : Calls P f args (w.drewN n) fun e w'' => e = .returned v ∧ ∃ m, w'' = w.drewN m := Calls.quiet_of_same h
def levelB (z : Int) : Bool := decide (0 ≤ z ∧ z ≤ 4)
theorem wide_cases (z : Int) : z = 0 ∨ z = 1 ∨ z = 2 ∨ z = 3 ∨ z = 4 ∨ (levelB z = false ∧ wideN z = 0) := by
  unfold levelB wideN
  by_cases h0 : z = 0
  · exact .inl h0
  by_cases h1 : z = 1
  · exact .inr (.inl h1)
  by_cases h2 : z = 2
  · exact .inr (.inr (.inl h2))
  by_cases h3 : z = 3
  · exact .inr (.inr (.inr (.inl h3)))
  by_cases h4 : z = 4
  · exact .inr (.inr (.inr (.inr (.inl h4))))
  · refine .inr (.inr (.inr (.inr (.inr ⟨?_, by simp [h0, h1, h2, h3, h4]⟩))))
    simp; omega
theorem wide_le (z : Int) : wideN z ≤ 16 := by
  rcases wide_cases z with rfl | rfl | rfl | rfl | rfl | ⟨_, h⟩ <;> first | decide | omega

set_option maxHeartbeats 400000 in
theorem islevel_any (z : Int) (w : World) : Calls Try.prog 43 #[.int .i64 z] w (QRet (.bool (levelB z)) w) := by
  go_enter Try.func43, Try.ntmps43
  go_wp2
  all_goals
    go_ret
    exact ⟨ret_bool (by unfold levelB; rw [Bool.eq_iff_iff]; simp; try omega), rfl⟩
set_option maxHeartbeats 400000 in
theorem rlevel_any (z : Int) (w : World) : Calls Try.prog 33 #[.int .i64 z] w (QRet (.bool (levelB z)) w) := by
  go_enter Try.func33, Try.ntmps33
  go_wp2
  all_goals
    go_ret
    exact ⟨ret_bool (by unfold levelB; rw [Bool.eq_iff_iff]; simp; try omega), rfl⟩

set_option maxHeartbeats 400000 in
set_option maxHeartbeats 400000 in
theorem side_any (z : Int) (w : World) : Calls Try.prog 36 #[.int .i64 z] w (QRet (.tuple #[.int .i64 (4096 * (wideN z : Int)), .bool (levelB z)]) w) := by
  have HL := Lib.hid (islevel_any z)
  rcases wide_cases z with rfl | rfl | rfl | rfl | rfl | ⟨h1, h2⟩
  iterate 5
    · go_enter Try.func36, Try.ntmps36
      go_wp2_with fail
      refine (HL.out _).mono ?_
      rintro _ w1 ⟨rfl, rfl⟩
      go_wp2
      go_ret2
      exact ⟨rfl, rfl⟩
  · rw [h1] at HL
    rw [h1, h2]
    clear h1 h2
    go_enter Try.func36, Try.ntmps36
    go_wp2_with fail
    refine (HL.out _).mono ?_
    rintro _ w1 ⟨rfl, rfl⟩
    go_wp2
    go_ret2
    exact ⟨rfl, rfl⟩

set_option maxHeartbeats 400000 in
theorem wide_any (z : Int) (w : World) : Calls Try.prog 32 #[.int .i64 z] w (QRet (.int .i64 (wideN z : Int)) w) := by
  have HL := Lib.hid (side_any z)
  have hb := wide_le z
  obtain ⟨n, hn⟩ : ∃ n, wideN z = n := ⟨_, rfl⟩
  rw [hn] at HL hb ⊢
  generalize levelB z = t at HL
  clear hn
  have i1 : (0 : Int) ≤ 4096 * (n : Int) := by omega
  go_enter Try.func32, Try.ntmps32
  go_wp2_with fail
  refine (HL.out _).mono ?_
  rintro _ w1 ⟨rfl, rfl⟩
  go_wp2
  go_ret
  exact ⟨ret_int (by omega), rfl⟩

theorem wide_succ {k : Nat} (h : k < 4) : wideN ((k : Int) + 1) = 2 * wideN k := by
  match k, h with
  | 0, _ => rfl
  | 1, _ => rfl
  | 2, _ => rfl
  | 3, _ => rfl
set_option maxHeartbeats 400000 in
theorem rpower_any (z : Nat) (hz : z ≤ 4) (w : World) : Calls Try.prog 34 #[.int .i64 (z : Int)] w (QRet (.int .i64 (wideN z : Int)) w) := by
  go_enter Try.func34, Try.ntmps34
  go_wp2
  go_loop [3, 4] (fun n i => ∃ k : Nat, k ≤ z ∧ i = .int .i64 (k : Int) ∧ n = .int .i64 (wideN k : Int)) (fun _ i => z - (intOf i).toNat)
  case atStart => exact ⟨0, Nat.zero_le _, rfl, rfl⟩
  case round =>
    obtain ⟨k, hk, rfl, rfl⟩ := hrel
    by_cases hlt : k < z
    · have hb := wide_le k
      have hs := Lib.hid (wide_succ (k := k) (by omega))
      generalize wideN (k : Int) = n at hb hs ⊢
      go_wp2
      go_round
      case rel => exact ⟨k + 1, by omega, by go_num, by rw [show ((k + 1 : Nat) : Int) = (k : Int) + 1 by omega, hs.out]; go_num⟩
      case measure => simp [intOf]; omega
    · obtain rfl : k = z := by omega
      go_wp2
      go_ret
      exact ⟨rfl, rfl⟩

abbrev tl (z x y : Int) : Value := .agg #[.int .i64 z, .int .i64 x, .int .i64 y]
def tileB (z x y : Int) : Bool := decide (0 ≤ x) && decide (x < (wideN z : Int)) && decide (0 ≤ y) && decide (y < (wideN z : Int))
theorem cells3 {w : World} {b : Nat} {x y z : Value} {T : TypeId} (h : w.heap[b]? = some (.cells #[x, y, z] T (0, 0))) :
    w.cell? ⟨b, 0, none⟩ = some x ∧ w.cell? ⟨b, 1, none⟩ = some y ∧ w.cell? ⟨b, 2, none⟩ = some z := by
  refine ⟨?_, ?_, ?_⟩ <;> simp [World.cell?, h]

end Go.Proofs.Ytfhohgemfojjmaa
