/-
  Layer 7: reading, whatever the bytes are.
-/
import Derived.Test.YtdiciboaehdckaaV8
import Derived.Scope
import Derived.WalkMore
namespace Go.Proofs.Ytdiciboaehdckaa
open Go.RowKit Go.Tab

set_option maxHeartbeats 400000 in
theorem rread_nil (a : Option Addr) (cap : Nat) (w : World) : Calls Try.prog 32 #[.slice a 0 cap] w (Ret (rdv (0, 0, 4)) w) := by
  go_enter Try.func32, Try.ntmps32
  go_wp2
  refine wp_loop_rounds 1 ?_; rw [rounds_succ]
  go_wp2
  go_ret3
  exact ⟨rfl, Grows.refl _⟩

set_option maxHeartbeats 400000 in
theorem read_nil (a : Option Addr) (cap : Nat) (w : World) : Calls Try.prog 38 #[.slice a 0 cap] w (Ret (rdv (0, 0, 4)) w) := by
  go_enter Try.func38, Try.ntmps38
  go_wp2
  refine wp_scope_straight ?_
  go_wp2
  go_step3
  go_wp2
  rw [Exit.noGoto_ret]
  go_ret3
  exact ⟨rfl, Grows.refl _⟩

theorem read_any (v : Value) (l : List Nat) (w : World) (hp : NumsAt .u8 w v l) (hx : ∀ x ∈ l, x < 256) : Calls Try.prog 38 #[v] w (Ret (rdv (rd l)) w) := by
  obtain ⟨hl, ⟨⟨_, _, rfl, _⟩, rfl⟩ | ⟨b, off, cap, rfl, hb, hc, hi⟩⟩ := hp
  · exact read_nil _ _ w
  · exact read_some l b off l.length cap w (Lib.hid rfl) hl (Lib.hid hx) hi
theorem rread_any (v : Value) (l : List Nat) (w : World) (hp : NumsAt .u8 w v l) (hx : ∀ x ∈ l, x < 256) : Calls Try.prog 32 #[v] w (Ret (rdv (rd l)) w) := by
  obtain ⟨hl, ⟨⟨_, _, rfl, _⟩, rfl⟩ | ⟨b, off, cap, rfl, hb, hc, hi⟩⟩ := hp
  · exact rread_nil _ _ w
  · exact rread_some l b off l.length cap w (Lib.hid rfl) hl (Lib.hid hx) hi
end Go.Proofs.Ytdiciboaehdckaa
