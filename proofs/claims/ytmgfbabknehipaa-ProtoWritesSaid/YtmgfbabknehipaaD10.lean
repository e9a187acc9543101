/-
  Layer 8: a field of any bytes, as the document reads it.
-/
import Derived.Test.YtmgfbabknehipaaD9
namespace Go.Proofs.Ytmgfbabknehipaa
open Go.RowKit Go.Tab

def rdQ (l : List Nat) (q : Six) : Fld × Nat × Nat :=
  if ¬ q.2.2.2.2.2 = 0 then (⟨0, 0, 0, []⟩, 0, q.2.2.2.2.2) else
  (⟨q.1, q.2.1, if q.2.1 = 1 ∨ q.2.1 = 5 then fromL ((l.drop q.2.2.2.1).take q.2.2.2.2.1) else q.2.2.1, if q.2.1 = 2 then (l.drop q.2.2.2.1).take q.2.2.2.2.1 else []⟩, q.2.2.2.1 + q.2.2.2.2.1, 0)
theorem rdF_eq (l : List Nat) : rdF l = rdQ l (lk l) := rfl
def rfV (f : Fld) : Value := .agg #[.int .i64 f.num, .int .i64 f.kind, .int .u64 (f.n : Int), .string (strN f.bs)]
def rrV (q : Fld × Nat × Nat) : Value := .tuple #[.agg #[.int .i64 q.1.num, .int .i64 q.1.kind, .int .u64 (q.1.n : Int), .string (strN q.1.bs)], .int .i64 (q.2.1 : Int), .int .i64 (q.2.2 : Int)]
theorem rrV_bad (l : List Nat) (e : Nat) (he : ¬ e = 0) : rrV (rdQ l (bad6 e)) = rbadv e := by
  unfold rdQ bad6
  simp only
  rw [if_pos he]
  rfl
theorem beq_true {a b : Int} (h : a = b) : (a == b) = true := by simpa using h
theorem beq_false {a b : Int} (h : ¬ a = b) : (a == b) = false := by simpa using h

end Go.Proofs.Ytmgfbabknehipaa
