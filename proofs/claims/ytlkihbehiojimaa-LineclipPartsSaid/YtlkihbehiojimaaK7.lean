/-
  Layer 22: a row of its own; the parts of a row that a box shows.
-/
import Derived.Test.YtlkihbehiojimaaK6
import Derived.WalkSpells
import Derived.ScopeJumps
namespace Go.Proofs.Ytlkihbehiojimaa
open Go.RowKit Go.Tab Go.WideShapes

theorem infoPt : (Try.prog.info? 24).map (fun i => (i.zero, i.size, i.bytes)) = some (some (.agg #[.int .i64 0, .int .i64 0]), 2, 16) := by kernel_rfl
theorem own_empty {w : World} {T : TypeId} {s : Nat} (hs : 0 < s) : (w.alloc (.cells #[] T)).ownsRow w.heap.size T s (.slice (some ⟨w.heap.size, 0, none⟩) 0 0) 0 [] :=
  ⟨by simp, .inr ⟨w.heap.size, 0, #[], rfl, Nat.le_refl _, heap_new _ _ _ rfl, Nat.le_refl _, by unfold maxLen; omega, by simp, by simp⟩⟩

/-- A new row with these points. -/
def RetPts (l : List (Int × Int)) (w : World) : Ending → World → Prop := fun r w' => ∃ v', r = .returned v' ∧ w'.ownsRow w.heap.size 24 2 v' l.length (flat l) ∧ Grows w w'
set_option maxHeartbeats 2000000 in
theorem clone_any (u : Value) (l : List (Int × Int)) (w : World) (hu : PtsAt w u l) (hn : l.length ≤ 1000) :
    Calls Try.prog 31 #[u] w (RetPts l w) := by
  obtain ⟨i0, hi0, hz0, hz1, hz2⟩ := info_parts infoPt
  obtain ⟨a, c, rfl, hnc, hac⟩ := hu.shape
  have HU := Lib.hid hu
  obtain ⟨n, hln⟩ : ∃ n, n = l.length := ⟨_, rfl⟩
  rw [← hln] at hn hnc HU ⊢
  have HN := Lib.hid hln
  clear hu hln
  cases a with
  | none =>
    have hc0 : c = 0 := hac rfl
    subst hc0
    have hn0 : n = 0 := by omega
    subst hn0
    have HL : Hid (l = []) := Lib.hid (List.length_eq_zero_iff.1 HN.out.symm)
    have q22 : ∀ (w : World) (a : Option Addr) (n c n' c' : Nat), (binOp .eql 22 (.slice a n c) (.slice none n' c')).run Try.prog w = .ok (.bool a.isNone) w := fun w a n c n' c' => Lib.run_eql_slice_nil w _ _ a n c n' c' Try.underlying22
    go_enter Try.func31, Try.ntmps31
    go_wp2
    go_ret
    refine ⟨_, rfl, ?_, Grows.refl w⟩
    rw [HL.out]
    exact World.ownsRow_nil _ _ _ _
  | some ad =>
    clear hac
    have q22 : ∀ (w : World) (a : Option Addr) (n c n' c' : Nat), (binOp .eql 22 (.slice a n c) (.slice none n' c')).run Try.prog w = .ok (.bool a.isNone) w := fun w a n c n' c' => Lib.run_eql_slice_nil w _ _ a n c n' c' Try.underlying22
    go_enter Try.func31, Try.ntmps31
    have HRW : Hid (RowAt 2 (w.alloc (.cells #[] 24)) (.slice (some ad) n c) n (flat l)) := Lib.hid (by
      have := (HU.out.grows ((Grows.refl w).al (.cells #[] 24))).row
      rwa [← HN.out] at this)
    go_wp2_with (at_builtin; refine append_row rfl _ _ 22 rfl w.heap.size 24 i0 _ 2 16 Try.underlying22 hi0 hz0 hz1 hz2 rfl (by decide) (.slice (some ⟨w.heap.size, 0, none⟩) 0 0) 0 [] rfl (own_empty (by decide)) n _ _ rfl HRW.out (by unfold maxLen; omega) (by omega) (by simp only [World.size_alloc]; omega) ?_; intro v5 w5 hown5 hgr5; have O5 := Lib.hid hown5; have G5 := Lib.hid (hgr5 w ((Grows.refl w).al _) (Nat.le_refl _)); clear hown5 hgr5)
    go_ret
    refine ⟨_, rfl, ?_, G5.out⟩
    have := O5.out
    rw [List.nil_append, Nat.zero_add] at this
    rw [← HN.out]
    exact this

end Go.Proofs.Ytlkihbehiojimaa
