/-
  Layer 1: who lies on a segment, and within a triangle: the walks.
-/
import Derived.Test.YtlkihbehiojimaaE3n
namespace Go.Proofs.Ytlkihbehiojimaa
open Go.RowKit Go.Tab

def onP (ax ay bx b_y px py : Int) : Bool := mayB ax ay && mayB bx b_y && mayB px py && onB ax ay bx b_y px py

end Go.Proofs.Ytlkihbehiojimaa
