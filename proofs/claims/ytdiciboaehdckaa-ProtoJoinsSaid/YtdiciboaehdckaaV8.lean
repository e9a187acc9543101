/-
  Layer 7: all numbers of bytes: the program's.
-/
import Derived.Test.YtdiciboaehdckaaV7
namespace Go.Proofs.Ytdiciboaehdckaa
open Go.RowKit Go.Tab

/-- Row's three variables, and its row of numbers. -/
def St (W : World) (B : Nat) (v : Value) (p : Nat) (acc : List Nat) (w : World) : Prop :=
  w.heap[B]? = some (.cells #[v] 24 (0, 0)) ∧ (∃ u, w.heap[B + 1]? = some (.cells #[u] 73 (0, 0)) ∧ w.ownsRow (B + 3) 39 1 u acc.length (acc.map fun x : Nat => .int .u64 (x : Int))) ∧
    w.heap[B + 2]? = some (.cells #[.int .i64 p] 3 (0, 0)) ∧ Grows W w

theorem cells1 {w : World} {b : Nat} {x : Value} {T : TypeId} (h : w.heap[b]? = some (.cells #[x] T (0, 0))) : w.cell? ⟨b, 0, none⟩ = some x ∧ w.frozen? ⟨b, 0, none⟩ = false := by
  constructor <;> simp [World.cell?, World.frozen?, h]

theorem set1 {w : World} {b : Nat} {x y : Value} {T : TypeId} (h : w.heap[b]? = some (.cells #[y] T (0, 0))) : (w.setCell ⟨b, 0, none⟩ x).heap[b]? = some (.cells #[x] T (0, 0)) := by
  simp [World.setCell, Array.getElem?_modify, h]
theorem own_slice {w : World} {base : Nat} {e : TypeId} {s : Nat} {v : Value} {n : Nat} {xs : List Value} (h : w.ownsRow base e s v n xs) : ∃ a l c, v = .slice a l c := by
  obtain ⟨_, ⟨h, _⟩ | ⟨g, cap, cur, h, _⟩⟩ := h
  · exact ⟨_, _, _, h⟩
  · exact ⟨_, _, _, h⟩

end Go.Proofs.Ytdiciboaehdckaa
