/-
  Layer 22: the parts as rows; how many edges they have.
-/
import Derived.Test.YtlkihbehiojimaaK27
import Derived.Test.YtlkihbehiojimaaK20
import Derived.Test.YtlkihbehiojimaaK11
namespace Go.Proofs.Ytlkihbehiojimaa
open Go.RowKit Go.Tab

/-- A part of a row, by its places. -/
def prow (l : List (Int × Int)) (p : Nat × Nat) : List (Int × Int) := (l.drop p.1).take (p.2 - p.1 + 1)
theorem prow_len (l : List (Int × Int)) (p : Nat × Nat) (h1 : p.1 < p.2) (h2 : p.2 < l.length) : (prow l p).length = p.2 - p.1 + 1 := by
  unfold prow
  rw [List.length_take, List.length_drop]
  omega
theorem prow_new (l : List (Int × Int)) (i : Nat) (h1 : 1 ≤ i) (h2 : i < l.length) : prow l (i - 1, i) = [l.getD (i - 1) (0, 0)] ++ [l.getD i (0, 0)] := by
  unfold prow
  show (l.drop (i - 1)).take (i - (i - 1) + 1) = _
  rw [show i - (i - 1) + 1 = 2 by omega, List.drop_eq_getElem_cons (by omega), show i - 1 + 1 = i by omega, List.drop_eq_getElem_cons h2]
  simp [List.getD_eq_getElem?_getD, h2, show i - 1 < l.length by omega]
  rw [List.drop_eq_getElem_cons h2, List.take_succ_cons, List.take_zero]
theorem prow_on (l : List (Int × Int)) (a i : Nat) (h1 : a < i - 1) (h2 : i < l.length) : prow l (a, i) = prow l (a, i - 1) ++ [l.getD i (0, 0)] := by
  unfold prow
  show (l.drop a).take (i - a + 1) = (l.drop a).take (i - 1 - a + 1) ++ _
  rw [show i - 1 - a + 1 = i - a by omega, List.take_succ_eq_append_getElem (by rw [List.length_drop]; omega)]
  congr 2
  rw [List.getElem_drop, List.getD_eq_getElem?_getD, List.getElem?_eq_getElem h2]
  simp only [Option.getD_some]
  congr 1
  omega
theorem prow_at {w : World} {l : List (Int × Int)} {g cp : Nat} {p : Nat × Nat} (h : PtsAt w (.slice (some ⟨g, 0, none⟩) l.length cp) l) (h1 : p.1 < p.2) (h2 : p.2 < l.length) : PtsAt w (rowV g p) (prow l p) := by
  have hd := (h.drop (j := p.1) (by omega)).take (j := p.2 - p.1 + 1) (by omega)
  obtain ⟨hl, ⟨⟨_, _, hv, _⟩, h0⟩ | ⟨b, off, c, hv, hb, hc, hcell⟩⟩ := hd
  · have := congrArg List.length h0
    have h3 := prow_len l p h1 h2
    unfold prow at h3
    rw [h3] at this
    simp at this
  · have h3 := prow_len l p h1 h2
    have hl3 : ((l.drop p.1).take (p.2 - p.1 + 1)).length = p.2 - p.1 + 1 := h3
    injection hv with e1 e2 e3
    injection e1 with e1
    injection e1 with e4 e5
    refine ⟨hl, .inr ⟨b, off, p.2 - p.1 + 1, ?_, hb, by rw [h3]; exact Nat.le_refl _, hcell⟩⟩
    unfold rowV
    rw [h3, ← e4, ← e5, Nat.zero_add]
theorem parts_rowsAt {w : World} {base : Nat} {T : TypeId} {v : Value} {g cp n : Nat} {l : List (Int × Int)} {s : Nat → Bool} (hn : n = l.length) (h : w.ownsRow base T 1 v (partsI s n 0).length ((partsI s n 0).map (rowV g))) (hl : l = [] ∨ PtsAt w (.slice (some ⟨g, 0, none⟩) l.length cp) l) :
    RowsAt w v ((partsI s n 0).map (prow l)) := by
  refine rows_vals (vs := (partsI s n 0).map (rowV g)) (by rw [List.length_map]; exact h) (by simp) fun i x q hx hq => ?_
  rw [List.getElem?_map] at hx hq
  obtain ⟨p, hp, rfl⟩ := Option.map_eq_some_iff.1 hx
  rw [hp] at hq
  have hq : prow l p = q := by simpa using hq
  subst hq
  obtain ⟨h1, h2, -⟩ := (parts_maxi s n p).1 (List.mem_of_getElem? hp)
  rw [hn] at h2
  rcases hl with rfl | hl
  · simp at h2
  · exact prow_at hl h1 h2
/-- As many edges as are shown. -/
theorem cnt_edges (s : Nat → Bool) : ∀ i, ((partsI s (i + 1) 0).map fun p => p.2 - p.1).sum = ((List.range i).filter s).length
  | 0 => by rw [parts_one]; rfl
  | i + 1 => by
    have ih := cnt_edges s i
    rw [List.range_succ, List.filter_append, List.length_append]
    cases h : s i with
    | false => rw [parts_skip s (i + 1) (by omega) h, ih]; simp [h]
    | true =>
      by_cases hg : i + 1 = 1 ∨ s (i + 1 - 2) = false
      · rw [parts_new s (i + 1) (by omega) h hg, List.map_append, List.sum_append, ih]
        simp [h]
        try omega
      · have hg2 : s (i + 1 - 2) = true := by
          cases h3 : s (i + 1 - 2) with
          | true => rfl
          | false => exact absurd (.inr h3) hg
        obtain ⟨D, a, ha, e1, e2⟩ := parts_on s (i + 1) (by omega) h hg2
        rw [e1, List.map_append, List.sum_append] at ih
        rw [e2, List.map_append, List.sum_append]
        simp [h] at ih ⊢
        omega
end Go.Proofs.Ytlkihbehiojimaa
