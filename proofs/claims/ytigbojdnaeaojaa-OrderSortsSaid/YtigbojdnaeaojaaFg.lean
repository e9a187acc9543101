/-
  The frame's lemmas: a slice of slices of structs that are made of whole numbers alone.
-/
import Derived.Test.YtigbojdnaeaojaaFf
namespace Go.Tab
open Go Go.ChangeShapes Go.WideShapes Go.ChangeAt Go.RowKit Go.Joins Go.Deep
section
variable {H : Type} {enc : TypeId × Value → H} {P : Program} {w : World} {base : Nat} {spare : Nat → Bool} {held : Bool}

/-- A row of the frame: a slice of n elements of s whole numbers each. -/
def RowIs (w : World) (s : Nat) (a : Option Addr) (n cap : Nat) (V : Nat → Nat → Int) : Prop :=
  n ≤ cap ∧ cap ≤ maxLen ∧ (a = none → cap = 0) ∧
    ((n = 0) ∨ ∃ b off, a = some ⟨b, off, none⟩ ∧ b < w.heap.size ∧ ∀ i, i < n → ∀ j, j < s → w.cell? ⟨b, off + i * s + j, none⟩ = some (.int .i64 (V i j))) ∧
    ∀ i, i < n → ∀ j, j < s → (Lit.int .i64 (V i j)).wf = true
theorem flats_trod {n : Nat} {t e : TypeId} {fuel : Nat} {cs : List Value} {x : DataW H × List MemPlace} (s : Nat) (hs0 : 0 < s) (ht : P.underlying t = some (.slice e)) (hf : flatI P n e = true) (hC : P.cellsOf e = s)
    (h : DataW.trod enc P w 0 (fun _ => true) held fuel t cs = some x) : ∃ (a : Option Addr) (n cap : Nat) (V : Nat → Nat → Int), cs = [.slice a n cap] ∧ RowIs w s a n cap V := by
  rcases open_slice ht h with ⟨hcs, _⟩ | ⟨a', n', cap, m, k, D, Pl, hcs, hb, hl, hm, hmm, hx, hi⟩
  · exact ⟨none, 0, 0, fun _ _ => 0, hcs, Nat.le_refl _, Nat.zero_le _, fun _ => rfl, .inl rfl, fun i hi => absurd hi (Nat.not_lt_zero _)⟩
  · simp only [if_true] at hmm
    subst hmm
    have each : ∀ i, i < n' → ∀ j, j < s → ∃ q, w.cell? ((a'.add (i * s)).add j) = some (.int .i64 q) ∧ (Lit.int .i64 q).wf = true := by
      intro i hin j hj
      obtain ⟨cs', h1, h2⟩ := hi i (by omega)
      rw [hC] at h1
      obtain ⟨_, hlen, hcell⟩ := World.cells?_some h1
      have hj' : j < cs'.length := by omega
      obtain ⟨q, hq, hw⟩ := flat_trod _ _ _ _ _ hf h2 j _ (List.getElem?_eq_getElem hj')
      refine ⟨q, ?_, hw⟩
      rw [← hq, ← List.getElem?_eq_getElem hj']
      exact (hcell j (by omega)).symm ▸ rfl
    refine ⟨some a', n', _, fun i j => intOf ((w.cell? ((a'.add (i * s)).add j)).getD (.int .i64 0)), hcs, hl, hm, (fun h => by cases h), ?_, ?_⟩
    · by_cases hn : n' = 0
      · exact .inl hn
      · right
        obtain ⟨b', off, spot⟩ := a'
        obtain ⟨q, hq, _⟩ := each 0 (by omega) 0 hs0
        have hs := World.cell?_spot hq
        simp [Addr.add] at hs
        subst hs
        rw [add_plain, add_plain] at hq
        refine ⟨b', off, rfl, cell_in hq, fun i hin j hj => ?_⟩
        obtain ⟨q, hq, _⟩ := each i hin j hj
        simp only [hq, Option.getD_some, intOf]
        rw [add_plain, add_plain] at hq
        exact hq
    · intro i hin j hj
      obtain ⟨q, hq, hw⟩ := each i hin j hj
      simp only [hq, Option.getD_some, intOf]
      exact hw
/-- A slice of slices of structs of s whole numbers each. -/
theorem rows_of {n : Nat} {r : Reach} {b0 : Nat} {t e f : TypeId} {v : Value} {d : DataW H} {p : List MemPlace} (s : Nat) (hs0 : 0 < s) (ht : P.underlying t = some (.slice e)) (he : P.underlying e = some (.slice f)) (hC1 : P.cellsOf e = 1) (hf : flatI P n f = true) (hC : P.cellsOf f = s)
    (hv : Value.okWide P w r b0 t v) (h : DataW.Trod enc P w 0 (fun _ => true) held t v d p) :
    ∃ (a : Option Addr) (n cap : Nat) (A : Nat → Option Addr) (N C : Nat → Nat) (V : Nat → Nat → Nat → Int), v = .slice a n cap ∧ n ≤ cap ∧ cap ≤ maxLen ∧ (a = none → cap = 0) ∧
      ((n = 0) ∨ ∃ b off, a = some ⟨b, off, none⟩ ∧ b < w.heap.size ∧ ∀ i, i < n → w.cell? ⟨b, off + i, none⟩ = some (.slice (A i) (N i) (C i))) ∧
      ∀ i, i < n → RowIs w s (A i) (N i) (C i) (V i) := by
  obtain ⟨a, n', cap, rfl⟩ := okWide_slice ht hv
  obtain ⟨fuel, hfu⟩ := h
  rcases open_slice ht hfu with ⟨hcs, _⟩ | ⟨a', len', cap', m, k, D, Pl, hcs, hb, hl, hm, hmm, hx, hi⟩
  · simp [Value.cells] at hcs
    obtain ⟨rfl, rfl, rfl⟩ := hcs
    exact ⟨none, 0, 0, fun _ => none, fun _ => 0, fun _ => 0, fun _ _ _ => 0, rfl, Nat.le_refl _, Nat.zero_le _, fun _ => rfl, .inl rfl, fun i hi => absurd hi (Nat.not_lt_zero _)⟩
  · simp [Value.cells] at hcs
    obtain ⟨rfl, rfl, rfl⟩ := hcs
    simp only [if_true] at hmm
    subst hmm
    have each : ∀ i, ∃ (A : Option Addr) (N C : Nat) (V : Nat → Nat → Int), i < n' → w.cell? (a'.add i) = some (.slice A N C) ∧ RowIs w s A N C V := by
      intro i
      by_cases hin : i < n'
      · obtain ⟨cs', h1, h2⟩ := hi i (by omega)
        rw [hC1, Nat.mul_one] at h1
        obtain ⟨_, hlen, hcell⟩ := World.cells?_some h1
        obtain ⟨A, N, C, V, rfl, hr⟩ := flats_trod s hs0 he hf hC h2
        have := hcell 0 (by omega)
        refine ⟨A, N, C, V, fun _ => ⟨?_, hr⟩⟩
        rw [show a'.add i = (a'.add i).add 0 from by unfold Addr.add; split <;> simp_all]
        exact this.symm ▸ rfl
      · exact ⟨none, 0, 0, fun _ _ => 0, fun h => absurd h hin⟩
    obtain ⟨A, h1⟩ := Classical.skolem.1 each
    obtain ⟨N, h2⟩ := Classical.skolem.1 h1
    obtain ⟨C, h3⟩ := Classical.skolem.1 h2
    obtain ⟨V, all⟩ := Classical.skolem.1 h3
    clear each h1 h2 h3
    refine ⟨some a', n', _, A, N, C, V, rfl, hl, hm, (fun h => by cases h), ?_, fun i hin => (all i hin).2⟩
    by_cases hn : n' = 0
    · exact .inl hn
    · right
      obtain ⟨b', off, spot⟩ := a'
      have h0 := (all 0 (by omega)).1
      have hs := World.cell?_spot h0
      simp [Addr.add] at hs
      subst hs
      rw [add_plain] at h0
      refine ⟨b', off, rfl, cell_in h0, fun i hin => ?_⟩
      have := (all i hin).1
      rwa [add_plain] at this
end
end Go.Tab
