/-
  Layer 2: the stable sort of fewer than 20 cuts.
-/
import Derived.Test.YtlgplhanhnjeiaaS9
namespace Go.Proofs.Ytlgplhanhnjeiaa
open Go.RowKit Go.Tab Go.Sort

/-- A sort in place of an owned row of cuts. -/
def Sorts (f : Nat) (args : Array Value) (o : Value) (l s : List Cut) (B : Nat) (w : World) : Prop :=
  Calls Try.prog f args w fun e w' => e = .returned (.tuple #[]) ∧ w'.ownsRow B 61 4 o l.length (ccells s) ∧ w.grownBy w' o.ownBlock
set_option maxHeartbeats 1000000 in
theorem stable_small (o : Value) (l : List Cut) (B n : Nat) (w : World) (h : w.ownsRow B 61 4 o l.length (ccells l)) (hn : n = l.length) (hl : 0 < l.length) (hm : l.length < 20) :
    Sorts 42 #[o, .int .i64 n, .func (.func 31) #[] #[]] o l (insC l.toArray 0 n).toList B w := by
  have HI := ins_any o l B 0 n w h (by omega) (by omega) hl (by omega)
  unfold Sorts
  rw [← hn] at hm
  have HN := Lib.hid hn
  clear hn h hl
  go_enter Try.func42, Try.ntmps42
  have h20 : ¬ (20 : Int) ≤ (n : Int) := by omega
  have h21 : ¬ (20 : Int) < (n : Int) := by omega
  go_wp2_with fail
  refine wp_loop_rounds 1 ?_
  rw [rounds_succ]
  go_wp2_with (go_at_call 44; refine HI.mono ?_; rintro e w' ⟨rfl, HO, HG⟩)
  refine wp_loop_rounds 1 ?_
  rw [rounds_succ]
  go_wp2
  go_end0
  exact ⟨rfl, HO, HG⟩
theorem sortStable_small (o : Value) (l : List Cut) (B : Nat) (w : World) (h : w.ownsRow B 61 4 o l.length (ccells l)) (hl : 0 < l.length) (hm : l.length < 20) :
    Sorts 30 #[o, .func (.func 31) #[] #[]] o l (insC l.toArray 0 l.length).toList B w := by
  have HI := stable_small o l B l.length w h rfl hl hm
  unfold Sorts at HI ⊢
  obtain ⟨-, ⟨-, hv⟩ | ⟨g, cap, cur, rfl, -, -, hc, -⟩⟩ := id h
  · omega
  clear h
  go_enter Try.func30, Try.ntmps30
  go_wp2_with (go_at_call 42; refine HI.mono ?_; rintro e w' ⟨rfl, HO, HG⟩)
  go_end0
  exact ⟨rfl, HO, HG⟩
end Go.Proofs.Ytlgplhanhnjeiaa
