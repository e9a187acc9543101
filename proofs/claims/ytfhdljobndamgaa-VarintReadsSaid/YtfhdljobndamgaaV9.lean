/-
  Layer 7: reading, whatever the bytes are.
-/
import Derived.Test.YtfhdljobndamgaaV8
import Derived.Scope
import Derived.WalkMore
namespace Go.Proofs.Ytfhdljobndamgaa
open Go.RowKit Go.Tab

set_option maxHeartbeats 400000 in
theorem rread_nil (a : Option Addr) (cap : Nat) (w : World) : Calls Try.prog 18 #[.slice a 0 cap] w (Ret (rdv (0, 0, 4)) w) := by
  go_enter Try.func18, Try.ntmps18
  go_wp2
  refine wp_loop_rounds 1 ?_; rw [rounds_succ]
  go_wp2
  go_ret3
  exact ⟨rfl, Grows.refl _⟩

set_option maxHeartbeats 400000 in
theorem read_nil (a : Option Addr) (cap : Nat) (w : World) : Calls Try.prog 17 #[.slice a 0 cap] w (Ret (rdv (0, 0, 4)) w) := by
  go_enter Try.func17, Try.ntmps17
  go_wp2
  refine wp_scope_straight ?_
  go_wp2
  go_step3
  go_wp2
  rw [Exit.noGoto_ret]
  go_ret3
  exact ⟨rfl, Grows.refl _⟩

set_option maxHeartbeats 400000 in
theorem rrow_nil (a : Option Addr) (cap : Nat) (w : World) : Calls Try.prog 19 #[.slice a 0 cap] w (RetRow ([], 0, 0) w) := by
  go_enter Try.func19, Try.ntmps19
  go_wp2
  refine wp_loop_rounds 1 ?_; rw [rounds_succ]
  go_wp2
  refine bodyPost_ret (v := .tuple #[.slice none 0 0, .int .i64 0, .int .i64 0]) (by simp [results, Try.results19, go_sem]) rfl ⟨.slice none 0 0, rfl, ⟨Nat.zero_le _, .inl ⟨⟨_, _, rfl, fun _ => rfl⟩, rfl⟩⟩, Grows.refl _⟩

set_option maxHeartbeats 400000 in
theorem row_nil (a : Option Addr) (cap : Nat) (w : World) : Calls Try.prog 9 #[.slice a 0 cap] w (RetRow ([], 0, 0) w) := by
  have hmf : ∀ (fn : Fn) (first cap : Array Value) (w : World), (Instr.makeFunc fn first cap).run Try.prog w = .ok (.func fn first cap) w := fun _ _ _ _ => rfl
  go_enter Try.func9, Try.ntmps9
  go_wp2
  refine wp_loop_rounds 1 ?_; rw [rounds_succ]
  go_wp2
  refine bodyPost_ret (v := .tuple #[.slice none 0 0, .int .i64 0, .int .i64 0]) (by simp [results, Try.results9, go_sem]) rfl ⟨.slice none 0 0, rfl, ⟨Nat.zero_le _, .inl ⟨⟨_, _, rfl, fun _ => rfl⟩, rfl⟩⟩, (((Grows.refl w).al _).al _).al _⟩

theorem read_any (v : Value) (l : List Nat) (w : World) (hp : NumsAt .u8 w v l) (hx : ∀ x ∈ l, x < 256) : Calls Try.prog 17 #[v] w (Ret (rdv (rd l)) w) := by
  obtain ⟨hl, ⟨⟨_, _, rfl, _⟩, rfl⟩ | ⟨b, off, cap, rfl, hb, hc, hi⟩⟩ := hp
  · exact read_nil _ _ w
  · exact read_some l b off l.length cap w (Lib.hid rfl) hl (Lib.hid hx) hi
theorem rread_any (v : Value) (l : List Nat) (w : World) (hp : NumsAt .u8 w v l) (hx : ∀ x ∈ l, x < 256) : Calls Try.prog 18 #[v] w (Ret (rdv (rd l)) w) := by
  obtain ⟨hl, ⟨⟨_, _, rfl, _⟩, rfl⟩ | ⟨b, off, cap, rfl, hb, hc, hi⟩⟩ := hp
  · exact rread_nil _ _ w
  · exact rread_some l b off l.length cap w (Lib.hid rfl) hl (Lib.hid hx) hi
theorem row_any (v : Value) (l : List Nat) (w : World) (hp : NumsAt .u8 w v l) (hx : ∀ x ∈ l, x < 256) (hn : l.length ≤ 1000) : Calls Try.prog 9 #[v] w (RetRow (rows l) w) := by
  obtain ⟨hl, ⟨⟨_, _, rfl, _⟩, rfl⟩ | ⟨b, off, cap, rfl, hb, hc, hi⟩⟩ := hp
  · exact row_nil _ _ w
  · exact row_some l b off l.length cap w (Lib.hid rfl) hn hc hb (Lib.hid hx) (Lib.hid hi)
theorem rrow_any (v : Value) (l : List Nat) (w : World) (hp : NumsAt .u8 w v l) (hx : ∀ x ∈ l, x < 256) (hn : l.length ≤ 1000) : Calls Try.prog 19 #[v] w (RetRow (rows l) w) := by
  obtain ⟨hl, ⟨⟨_, _, rfl, _⟩, rfl⟩ | ⟨b, off, cap, rfl, hb, hc, hi⟩⟩ := hp
  · exact rrow_nil _ _ w
  · exact rrow_some l b off l.length cap w (Lib.hid rfl) hn hc hb (Lib.hid hx) (Lib.hid hi)
end Go.Proofs.Ytfhdljobndamgaa
