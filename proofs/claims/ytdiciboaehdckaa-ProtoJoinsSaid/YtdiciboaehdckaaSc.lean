/-
  A scope whose labels are only jumped to forwards: each jump goes on with the code behind its label.
-/
import Derived.ScopeJumps
namespace Go.Fwd
open Go

/-- As Q; by a goto to l0: J0; to l1: J1. -/
def Exit.two (l0 l1 : Nat) (J0 J1 : Act → World → Prop) (Q : Exit → Act → World → Prop) : Exit → Act → World → Prop
  | .goto l, a, w => if l = l0 then J0 a w else if l = l1 then J1 a w else False
  | e, a, w => Q e a w
/-- As Q; by a goto to l: J. -/
def Exit.one (l0 : Nat) (J0 : Act → World → Prop) (Q : Exit → Act → World → Prop) : Exit → Act → World → Prop
  | .goto l, a, w => if l = l0 then J0 a w else False
  | e, a, w => Q e a w

section
variable {P : Program} {Q Q2 : Exit → Act → World → Prop}

theorem scope_from {c : Code} {b : Frame} {k : List Item} {cs : List Frame} {x : Code} {a : Act} {w : World} (hx : x.wp P Q2 a w)
    (hg : ∀ l a w, Q2 (.goto l) a w → ∃ r, findLabel c l = some r ∧ ∃ e a' w', Q e a' w' ∧ Arrives P (lone (b.at a (.code r :: .inScope c :: k)) cs w) b k cs e a' w')
    (ho : ∀ e a w, (∀ l, e ≠ .goto l) → Q2 e a w → Q e a w) : ∃ e a' w', Q e a' w' ∧ Arrives P (lone (b.at a (.code x :: .inScope c :: k)) cs w) b k cs e a' w' := by
  obtain ⟨e, a₁, w₁, hq, harr⟩ := hx b (.inScope c :: k) cs
  cases e with
  | normal => exact ⟨.normal, a₁, w₁, ho _ _ _ (by simp) hq, Steps.trans harr (.one step_inScope)⟩
  | exit id => exact ⟨.exit id, a₁, w₁, ho _ _ _ (by simp) hq, fun k' hk => harr k' (by simp [exitTo, hk])⟩
  | goto l =>
    obtain ⟨r, hr, e₂, a₂, w₂, hq₂, harr₂⟩ := hg l a₁ w₁ hq
    have hgo : gotoIn l (.inScope c :: k) = some (.code r :: .inScope c :: k) := by simp [gotoIn, hr]
    exact ⟨e₂, a₂, w₂, hq₂, .of_steps (harr _ hgo) harr₂⟩
  | ret => exact ⟨_, a₁, w₁, ho _ _ _ (by simp) hq, harr⟩
  | panic ch => exact ⟨_, a₁, w₁, ho _ _ _ (by simp) hq, harr⟩
  | outgrown => exact ⟨_, a₁, w₁, ho _ _ _ (by simp) hq, harr⟩
theorem scope_in {c : Code} {b : Frame} {k : List Item} {cs : List Frame} {a : Act} {w : World} (h : ∃ e a' w', Q e a' w' ∧ Arrives P (lone (b.at a (.code c :: .inScope c :: k)) cs w) b k cs e a' w') :
    ∃ e a' w', Q e a' w' ∧ Arrives P (lone (b.at a (.code (.scope c) :: k)) cs w) b k cs e a' w' := by
  obtain ⟨e, a', w', hq, harr⟩ := h
  exact ⟨e, a', w', hq, .of_steps (.one step_scope) harr⟩
theorem wp_scope_fw2 {c r0 r1 : Code} {a : Act} {w : World} (l0 l1 : Nat) (h0 : findLabel c l0 = some r0) (h1 : findLabel c l1 = some r1)
    (h : c.wp P (Exit.two l0 l1 (fun a w => r0.wp P (Exit.one l1 (fun a w => r1.wp P (Exit.noGoto Q) a w) Q) a w) (fun a w => r1.wp P (Exit.noGoto Q) a w) Q) a w) : (Code.scope c).wp P Q a w := by
  intro b k cs
  have k1 : ∀ a w, r1.wp P (Exit.noGoto Q) a w → ∃ e a' w', Q e a' w' ∧ Arrives P (lone (b.at a (.code r1 :: .inScope c :: k)) cs w) b k cs e a' w' := fun a w hw =>
    scope_from hw (fun l a w hf => hf.elim) (fun e a w hn hq => by cases e <;> first | exact hq | exact absurd rfl (hn _))
  have k0 : ∀ a w, r0.wp P (Exit.one l1 (fun a w => r1.wp P (Exit.noGoto Q) a w) Q) a w → ∃ e a' w', Q e a' w' ∧ Arrives P (lone (b.at a (.code r0 :: .inScope c :: k)) cs w) b k cs e a' w' := fun a w hw =>
    scope_from hw (fun l a w hf => by
      simp only [Exit.one] at hf
      split at hf
      · rename_i hl
        subst hl
        exact ⟨r1, h1, k1 a w hf⟩
      · exact hf.elim) (fun e a w hn hq => by cases e <;> first | exact hq | exact absurd rfl (hn _))
  refine scope_in (scope_from h (fun l a w hf => ?_) (fun e a w hn hq => by cases e <;> first | exact hq | exact absurd rfl (hn _)))
  simp only [Exit.two] at hf
  split at hf
  · rename_i hl
    subst hl
    exact ⟨r0, h0, k0 a w hf⟩
  · split at hf
    · rename_i hl
      subst hl
      exact ⟨r1, h1, k1 a w hf⟩
    · exact hf.elim
theorem wp_scope_fw1 {c r0 : Code} {a : Act} {w : World} (l0 : Nat) (h0 : findLabel c l0 = some r0)
    (h : c.wp P (Exit.one l0 (fun a w => r0.wp P (Exit.noGoto Q) a w) Q) a w) : (Code.scope c).wp P Q a w := by
  intro b k cs
  refine scope_in (scope_from h (fun l a w hf => ?_) (fun e a w hn hq => by cases e <;> first | exact hq | exact absurd rfl (hn _)))
  simp only [Exit.one] at hf
  split at hf
  · rename_i hl
    subst hl
    exact ⟨r0, h0, scope_from hf (fun l a w hf => hf.elim) (fun e a w hn hq => by cases e <;> first | exact hq | exact absurd rfl (hn _))⟩
  · exact hf.elim
theorem two_fst {l0 l1 : Nat} {J0 J1 : Act → World → Prop} {a : Act} {w : World} (h : J0 a w) : Exit.two l0 l1 J0 J1 Q (.goto l0) a w := by
  simp only [Exit.two, if_true]; exact h
theorem two_snd {l0 l1 : Nat} {J0 J1 : Act → World → Prop} {a : Act} {w : World} (hne : l1 ≠ l0) (h : J1 a w) : Exit.two l0 l1 J0 J1 Q (.goto l1) a w := by
  simp only [Exit.two, if_neg hne, if_true]; exact h
theorem one_fst {l0 : Nat} {J0 : Act → World → Prop} {a : Act} {w : World} (h : J0 a w) : Exit.one l0 J0 Q (.goto l0) a w := by
  simp only [Exit.one, if_true]; exact h
end
end Go.Fwd
