/-
  Layer 8: the law ProtoOnly.
-/
import Derived.Test.YtmgfbabknehipaaD21
namespace Go.Proofs.Ytmgfbabknehipaa
open Go.RowKit Go.Tab Go.WideShapes

theorem cutL_len (fs : List Fld) : (cutL fs).length ≤ 20 := by
  unfold cutL; rw [List.length_map, List.length_take]; omega
theorem cutL_mem {fs : List Fld} (hx : ∀ f ∈ fs, ∀ x ∈ f.bs, x < 256) : (∀ f ∈ cutL fs, ∀ x ∈ f.bs, x < 256) ∧ ∀ f ∈ cutL fs, f.bs.length ≤ 1000 := by
  constructor
  · intro f hf x hxx
    unfold cutL at hf
    obtain ⟨g, hg, rfl⟩ := List.mem_map.1 hf
    exact hx g (List.mem_of_mem_take hg) x (List.mem_of_mem_take hxx)
  · intro f hf
    unfold cutL at hf
    obtain ⟨g, hg, rfl⟩ := List.mem_map.1 hf
    show (g.bs.take 50).length ≤ 1000
    rw [List.length_take]; omega
theorem only_mem {fs : List Fld} {num : Int} {f : Fld} (h : f ∈ onlyL fs num) : f ∈ fs := (List.mem_filter.1 h).1
theorem only_len (fs : List Fld) (num : Int) : (onlyL fs num).length ≤ fs.length := List.length_filter_le _ _

end Go.Proofs.Ytmgfbabknehipaa
