/-
  Layer 7: all numbers of bytes: the document's reckoning.
-/
import Derived.Test.YtdiciboaehdckaaV6
import Derived.Test.YtdiciboaehdckaaV3
import Derived.OwnWalk
namespace Go.Proofs.Ytdiciboaehdckaa
open Go.RowKit Go.Tab

/-- The numbers from a place on, behind those that are there; or the place of the first that has an error, and the error. -/
def rowsFrom (l : List Nat) : Nat → Nat → List Nat → List Nat × Nat × Nat
  | 0, _, acc => (acc, 0, 0)
  | f + 1, p, acc => if l.length ≤ p then (acc, 0, 0) else
      if (rd (l.drop p)).2.2 = 0 then rowsFrom l f (p + (rd (l.drop p)).2.1) (acc ++ [(rd (l.drop p)).1]) else ([], p, (rd (l.drop p)).2.2)
def rows (l : List Nat) : List Nat × Nat × Nat := rowsFrom l l.length 0 []

theorem rd_size (l : List Nat) (h : (rd l).2.2 = 0) : 1 ≤ (rd l).2.1 ∧ (rd l).2.1 ≤ l.length := by
  have := lead_le l
  by_cases h1 : 10 ≤ lead l
  · rw [rd_range h1] at h; cases h
  by_cases h2 : lead l = l.length
  · rw [rd_end h1 h2] at h; cases h
  by_cases h3 : lead l = 9 ∧ 1 < l.getD 9 0
  · rw [rd_nine h1 h2 h3] at h; cases h
  by_cases h4 : 0 < lead l ∧ l.getD (lead l) 0 = 0
  · rw [rd_zero h1 h2 h3 h4] at h; cases h
  rw [rd_ok h1 h2 h3 h4]
  simp only
  omega

theorem rowsFrom_done {l : List Nat} {f p : Nat} {acc : List Nat} (h : l.length ≤ p) : rowsFrom l f p acc = (acc, 0, 0) := by
  cases f with
  | zero => rfl
  | succ f => unfold rowsFrom; rw [if_pos h]
theorem rowsFrom_ok {l : List Nat} {f p : Nat} {acc : List Nat} (h : p < l.length) (hf : l.length - p ≤ f) (he : (rd (l.drop p)).2.2 = 0) :
    ∃ g, l.length - (p + (rd (l.drop p)).2.1) ≤ g ∧ rowsFrom l f p acc = rowsFrom l g (p + (rd (l.drop p)).2.1) (acc ++ [(rd (l.drop p)).1]) := by
  cases f with
  | zero => omega
  | succ f =>
    refine ⟨f, by have := rd_size _ he; omega, ?_⟩
    rw [rowsFrom, if_neg (by omega), if_pos he]
theorem rowsFrom_bad {l : List Nat} {f p : Nat} {acc : List Nat} (h : p < l.length) (hf : l.length - p ≤ f) (he : ¬ (rd (l.drop p)).2.2 = 0) : rowsFrom l f p acc = ([], p, (rd (l.drop p)).2.2) := by
  cases f with
  | zero => omega
  | succ f => rw [rowsFrom, if_neg (by omega), if_neg he]

theorem ownsRow_grows {w w' : World} {base : Nat} {T : TypeId} {s : Nat} {v : Value} {n : Nat} {xs : List Value} (h : w.ownsRow base T s v n xs) (hg : Grows w w') : w'.ownsRow base T s v n xs := by
  obtain ⟨h0, h1 | ⟨g, cap, cur, hv, hb, hh, rest⟩⟩ := h
  · exact ⟨h0, .inl h1⟩
  · exact ⟨h0, .inr ⟨g, cap, cur, hv, hb, hg.block hh, rest⟩⟩

theorem info64 : (Try.prog.info? 39).map (fun i => (i.zero, i.size, i.bytes)) = some (some (.int .u64 0), 1, 8) := by kernel_rfl

/-- What is handed back: the numbers, a place, an error. -/
def RetRow (q : List Nat × Nat × Nat) (w : World) (e : Ending) (w' : World) : Prop :=
  ∃ v, e = .returned (.tuple #[v, .int .i64 q.2.1, .int .i64 q.2.2]) ∧ NumsAt .u64 w' v q.1 ∧ Grows w w'

end Go.Proofs.Ytdiciboaehdckaa
