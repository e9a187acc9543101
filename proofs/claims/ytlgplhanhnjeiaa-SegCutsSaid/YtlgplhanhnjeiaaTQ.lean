/-
  A step of a region's table: a call whose answer lies in new memory: what is known of it holds in all later worlds.
-/
import Derived.Test.YtlgplhanhnjeiaaTab
namespace Go.Tab
open Go Go.RowKit
section
variable {P : Program} {ops : Array Oper} {w0 : World} {a0 : Act} {K : List Ent → Prop} {E : List Ent} {o : Oper} {rest : List Oper}

theorem tab_callQ {f : FuncId} (p : Value → World → Prop) (hup : ∀ v w w', p v w → Grows w w' → p v w')
    (hs : ∀ r w, Env r → Grows w0 w → AgreeL a0 E r w (o.looksAt ops) → Guard ops o r true ∧
      ∃ args, (execOp r o).run P w = .ok (.enter f args) w ∧ Calls P f args w (fun e w' => ∃ v, e = .returned v ∧ p v w' ∧ Grows w w'))
    (hr : wpTab P ops w0 a0 K (⟨o.dst, false, fun _ x w => p x w⟩ :: E) rest) : wpTab P ops w0 a0 K E (o :: rest) :=
  ⟨false, fun _ x w => p x w, fun _ v w w' h hg => hup v w w' h hg, fun a w hg hA => by
    obtain ⟨h1, args, h2, hc⟩ := hs a.eval w (Env.of a) hg hA
    unfold Spec Holds
    rw [if_pos h1.wanted, h2]
    exact ⟨Grows.refl _, hc.mono fun e w' ⟨v, he, hp, hw⟩ => ⟨v, 0, he, hw, (fun h => by cases h), hp⟩⟩, hr⟩
end
end Go.Tab
