/-
  Layer 8: reading a field: the document's answer: words.
-/
import Derived.Test.YtmgfbabknehipaaD8
namespace Go.Proofs.Ytmgfbabknehipaa
open Go.RowKit Go.Tab

theorem i64w (n : Int) : IntKind.i64.wrap n = wrap64 n := by simp [IntKind.wrap, wrap64, IntKind.bits, IntKind.signed]; try omega
theorem setN2 {w : World} {b : Nat} {x y z u z' : Value} {T : TypeId} (h : w.heap[b]? = some (.cells #[x, y, z, u] T (0, 0))) : (w.setCell ⟨b, 2, none⟩ z').heap[b]? = some (.cells #[x, y, z', u] T (0, 0)) := by
  simp [World.setCell, Array.getElem?_modify, h]
theorem setN2o {w : World} {b k : Nat} {z' : Value} (h : k ≠ b) : (w.setCell ⟨b, 2, none⟩ z').heap[k]? = w.heap[k]? := by
  simp [World.setCell, Array.getElem?_modify, Ne.symm h]
theorem fromL_down {seg : List Nat} {k : Nat} (h : k < seg.length) : fromL (seg.drop k) = seg.getD k 0 + 256 * fromL (seg.drop (k + 1)) := by
  rw [List.drop_eq_getElem_cons h]
  simp [fromL, List.getD, h]
theorem fromL_bd {seg : List Nat} {k : Nat} (hl : seg.length ≤ 8) (hx : ∀ x ∈ seg, x < 256) (h : k < seg.length) : 256 * fromL (seg.drop (k + 1)) + seg.getD k 0 < 18446744073709551616 ∧ seg.getD k 0 < 256 := by
  have h1 := fromL_lt (seg.drop k) (fun x hx' => hx x (List.mem_of_mem_drop hx'))
  rw [fromL_down h, List.length_drop] at h1
  have h3 : 256 ^ (seg.length - k) ≤ 256 ^ 8 := Nat.pow_le_pow_right (by omega) (by omega)
  have h4 : (256 : Nat) ^ 8 = 18446744073709551616 := by decide
  refine ⟨by omega, ?_⟩
  rw [show seg.getD k 0 = seg[k] by simp [List.getD, h]]
  exact hx _ (List.getElem_mem h)

end Go.Proofs.Ytmgfbabknehipaa
