/-
  Layer 4: the cell of a row's place; a scope's label.
-/
import Derived.Test.YtigbojdnaeaojaaO2
import Derived.Scope
import Derived.WalkMore
import Derived.ScopeJumps
namespace Go.Proofs.Ytigbojdnaeaojaa
open Go.RowKit Go.Tab

theorem IntsAt.at_cell {w : World} {b off n cap i : Nat} {l : List Int} (h : IntsAt w (.slice (some ⟨b, off, none⟩) n cap) l) (hi : i < l.length) :
    w.cell? ⟨b, off + i, none⟩ = some (.int .i64 (l.getD i 0)) := by
  obtain ⟨_, ⟨_, rfl⟩ | ⟨b', off', cap', hv, hb, _, hc⟩⟩ := h
  · cases hi
  · cases hv; exact hc i hi

/-- A scope in which the run jumps back to its label, which it also comes to from above: the rounds are walked once. -/
theorem wp_scope_label {P : Program} {c body : Code} {Q : Exit → Act → World → Prop} {a : Act} {w : World} (l : Nat) (J : Act → World → Prop) (μ : Act → World → Nat) (hf : findLabel c l = some (.seq .skip body))
    (first : (∀ a w, J a w → body.wp P (Exit.jump l J Q) a w) → c.wp P (Exit.jump l J Q) a w)
    (pass : ∀ a w, J a w → body.wp P (Exit.jump l (fun a' w' => J a' w' ∧ μ a' w' < μ a w) Q) a w) : (Code.scope c).wp P Q a w := by
  refine wp_scope_jumps l J μ hf (first fun a w hJ => Code.wp_mono (fun e a' w' h => ?_) (pass a w hJ)) (fun a w hJ => wp_seq (wp_skip (pass a w hJ)))
  cases e <;> first | exact h | exact ⟨h.1, h.2.1⟩
end Go.Proofs.Ytigbojdnaeaojaa
