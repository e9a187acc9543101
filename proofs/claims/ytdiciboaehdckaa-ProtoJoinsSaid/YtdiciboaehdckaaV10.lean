/-
  Layer 7: the chapter's examples.
-/
import Derived.Test.YtdiciboaehdckaaV9
import Derived.Test.YtdiciboaehdckaaV4
import Derived.Test.YtdiciboaehdckaaV2
namespace Go.Proofs.Ytdiciboaehdckaa
open Go.RowKit Go.Tab

theorem nums_block {k : IntKind} {w : World} {b : Nat} {E : TypeId} {cs : Array Value} {l : List Nat} (h : w.heap[b]? = some (.cells cs E (0, 0))) (hc : cs.toList = l.map fun x : Nat => .int k (x : Int)) (hl : l.length ≤ 17592186044416) :
    NumsAt k w (.slice (some ⟨b, 0, none⟩) l.length l.length) l := by
  refine ⟨hl, .inr ⟨b, 0, l.length, rfl, (Array.getElem?_eq_some_iff.1 h).1, Nat.le_refl _, fun i hi => ?_⟩⟩
  simp only [World.cell?, h, Nat.zero_add]
  show (if false = true then none else cs[i]?) = _
  have : cs.toList[i]? = some (.int k (l.getD i 0)) := by rw [hc, List.getElem?_map, List.getElem?_eq_getElem hi]; simp [List.getD_eq_getElem?_getD, hi]
  simpa using this

theorem NumsAt.u64 {w : World} {v : Value} {l : List Nat} (h : NumsAt .u64 w v l) : U64At w v l := by
  obtain ⟨hl, h | ⟨b, off, cap, hv, hb, _, hi⟩⟩ := h
  · exact ⟨hl, .inl h⟩
  · exact ⟨hl, .inr ⟨b, off, cap, hv, hb, hi⟩⟩

end Go.Proofs.Ytdiciboaehdckaa
