/-
  Layer 8: reading a field: the document's answer.
-/
import Derived.Test.YtmgfbabknehipaaD6
import Derived.Laws.BytesArg
namespace Go.Proofs.Ytmgfbabknehipaa
open Go.RowKit Go.Tab

abbrev fzr : Obj := .cells #[.int .i64 0, .int .i64 0, .int .u64 0, .string ⟨#[]⟩] 50
abbrev rbadv (e : Nat) : Value := .tuple #[.agg #[.int .i64 0, .int .i64 0, .int .u64 0, .string ⟨#[]⟩], .int .i64 0, .int .i64 (e : Int)]
/-- Bytes as a text. -/
def strN (l : List Nat) : ByteArray := ⟨(l.map UInt8.ofNat).toArray⟩
theorem conv_nums {w : World} {v : Value} {l : List Nat} (h : NumsAt .u8 w v l) : (convert 24 9 v).run Try.prog w = .ok (.string (strN l)) w := by
  obtain ⟨hl, ⟨⟨a, c, rfl, hac⟩, rfl⟩ | ⟨b, off, cap, rfl, hb, hnc, hc⟩⟩ := h
  · cases a with
    | none =>
      rw [hac rfl]
      exact run_convert_bytes_nil w _ _ Try.underlying24 Try.underlying5 0 0 _ Try.underlying9
    | some a =>
      rw [run_convert_bytes_string w _ _ _ _ 0 c Try.underlying24 Try.underlying5 Try.underlying9]
      simp [Conv.bytesToString, loadCells, loadCellsFrom]
      rfl
  · have := run_convert_bytes_arg w _ _ Try.underlying24 Try.underlying5 b off l.length cap (l.map fun x : Nat => (x : Int)) (by simp) (fun i hi => by rw [hc i hi]; simp [List.getD, hi]) _ Try.underlying9
    rw [this]
    congr 2
    simp [strOfNums, strN]

end Go.Proofs.Ytmgfbabknehipaa
