/-
  The frame's lemma: a text among the arguments.
-/
import Derived.Test.YtcmgkmkpkklloaaDoorFr
import Derived.ChangeMaps5
namespace Go.Tab
open Go Go.ChangeShapes Go.WideShapes Go.ChangeAt Go.RowKit Go.Joins Go.Deep

section
variable {H : Type} {enc : TypeId × Value → H} {P : Program} {w : World} {held : Bool}
theorem str_of {t : TypeId} {r : Reach} {b : Nat} {v : Value} {d : DataW H} {p : List MemPlace} (ht : P.underlying t = some .string) (hv : Value.okWide P w r b t v)
    (h : DataW.Trod enc P w 0 (fun _ => true) held t v d p) : ∃ s, v = .string s := by
  exact okWide_string ht hv
end
end Go.Tab
