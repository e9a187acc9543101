/-
  The frame's lemmas: arguments that are made of whole numbers alone: structs of structs of them, and slices of such.
-/
import Derived.Test.YtlkihbehiojimaaFr
namespace Go.Tab
open Go Go.ChangeShapes Go.WideShapes Go.ChangeAt Go.RowKit Go.Joins Go.Deep

/-- Is a type made of whole numbers alone, and do its fields fill it? -/
def flatI (P : Program) : Nat → TypeId → Bool
  | 0, _ => false
  | n + 1, t => match P.underlying t with
    | some (.int .i64) => true
    | some (.struct fs) => fs.all (fun f => flatI P n f.type) && (List.range (P.cellsOf t)).all fun j => fs.any fun f => decide (f.offset ≤ j ∧ j < f.offset + P.cellsOf f.type)
    | _ => false

section
variable {H : Type} {enc : TypeId × Value → H} {P : Program} {w : World} {base : Nat} {spare : Nat → Bool} {held : Bool}

theorem flat_trod : ∀ (n : Nat) (t : TypeId) (fuel : Nat) (cs : List Value) (x : DataW H × List MemPlace), flatI P n t = true → DataW.trod enc P w base spare held fuel t cs = some x →
    ∀ (j : Nat) (c : Value), cs[j]? = some c → ∃ m, c = Value.int .i64 m ∧ (Lit.int .i64 m).wf = true := by
  intro n
  induction n with
  | zero => intro t fuel cs x h; cases h
  | succ n ih =>
    intro t fuel cs x hf h j c hj
    unfold flatI at hf
    split at hf
    · rename_i hu
      obtain ⟨m, rfl, _, hw⟩ := DataW.trod_int hu h
      cases j with
      | zero => simp at hj; exact ⟨m, hj.symm, hw⟩
      | succ j => simp at hj
    · rename_i fs hu
      obtain ⟨xs, k, _, _, hlen, hxl, hfs⟩ := DataW.trod_struct hu h
      rw [Bool.and_eq_true] at hf
      have hjl : j < P.cellsOf t := by rw [← hlen]; exact (List.getElem?_eq_some_iff.1 hj).1
      have h2 := List.all_eq_true.1 hf.2 j (List.mem_range.2 hjl)
      obtain ⟨i, hi, hd⟩ := Array.any_eq_true.1 h2
      have hd := of_decide_eq_true hd
      have hfi : flatI P n fs[i].type = true := by
        have := Array.all_eq_true.1 hf.1 i hi
        exact this
      have h3 := hfs i fs[i] (by simp [hi])
      have hxi : i < xs.length := by omega
      rw [List.getElem?_eq_getElem hxi] at h3
      refine ih _ _ _ _ hfi h3 (j - fs[i].offset) c ?_
      rw [List.getElem?_take_of_lt (by omega), List.getElem?_drop, show fs[i].offset + (j - fs[i].offset) = j by omega]
      exact hj
    · cases hf

theorem flat_len {n : Nat} {t : TypeId} {fuel : Nat} {cs : List Value} {x : DataW H × List MemPlace} (hf : flatI P n t = true) (hi : P.underlying t = some (.int .i64) → P.cellsOf t = 1) (h : DataW.trod enc P w base spare held fuel t cs = some x) : cs.length = P.cellsOf t := by
  cases n with
  | zero => cases hf
  | succ n =>
    unfold flatI at hf
    split at hf
    · rename_i hu
      obtain ⟨m, rfl, _, _⟩ := DataW.trod_int hu h
      rw [hi hu]; rfl
    · rename_i fs hu
      obtain ⟨_, _, _, _, hlen, _, _⟩ := DataW.trod_struct hu h
      exact hlen
    · cases hf

/-- A struct of whole numbers alone. -/
theorem flat_of {n : Nat} {r : Reach} {b0 : Nat} {t : TypeId} {fs : Array Field} {v : Value} {d : DataW H} {p : List MemPlace} (s : Nat) (hs : P.underlying t = some (.struct fs)) (hf : flatI P n t = true) (hC : P.cellsOf t = s)
    (hv : Value.okWide P w r b0 t v) (h : DataW.Trod enc P w 0 (fun _ => true) held t v d p) :
    ∃ V : Nat → Int, v = .agg ((List.range s).map fun j => Value.int .i64 (V j)).toArray ∧ ∀ j, j < s → (Lit.int .i64 (V j)).wf = true := by
  obtain ⟨cs, rfl, hsz⟩ := okWide_struct hs hv
  obtain ⟨fuel, hfu⟩ := h
  have key := flat_trod _ _ _ _ _ hf hfu
  simp only [Value.cells] at key
  have hcs : ∀ j, (h : j < cs.toList.length) → ∃ m, cs.toList[j] = Value.int .i64 m ∧ (Lit.int .i64 m).wf = true := fun j hj => key j _ (List.getElem?_eq_getElem hj)
  refine ⟨fun j => intOf (cs.toList.getD j (.int .i64 0)), ?_, fun j hj => ?_⟩
  · congr 1
    refine Array.ext (by simp; omega) fun j h1 h2 => ?_
    obtain ⟨m, hm, _⟩ := hcs j (by simpa using h1)
    have hj : cs.toList.getD j (.int .i64 0) = .int .i64 m := by rw [List.getD_eq_getElem?_getD, List.getElem?_eq_getElem (by simpa using h1), ← hm]; rfl
    simp only [List.getElem_toArray, List.getElem_map, List.getElem_range, hj, intOf]
    rw [← hm]; simp
  · obtain ⟨m, hm, hw⟩ := hcs j (by simp; omega)
    have hj2 : cs.toList.getD j (.int .i64 0) = .int .i64 m := by rw [List.getD_eq_getElem?_getD, List.getElem?_eq_getElem (by simp; omega), ← hm]; rfl
    simp only [hj2, intOf]
    exact hw

/-- A slice of such. -/
theorem flats_of {n : Nat} {r : Reach} {b0 : Nat} {t e : TypeId} {v : Value} {d : DataW H} {p : List MemPlace} (s : Nat) (hs0 : 0 < s) (ht : P.underlying t = some (.slice e)) (hf : flatI P n e = true) (hC : P.cellsOf e = s)
    (hv : Value.okWide P w r b0 t v) (h : DataW.Trod enc P w 0 (fun _ => true) held t v d p) :
    ∃ (a : Option Addr) (n cap : Nat) (V : Nat → Nat → Int), v = .slice a n cap ∧ n ≤ cap ∧ cap ≤ maxLen ∧ (a = none → cap = 0) ∧
      ((n = 0) ∨ ∃ b off, a = some ⟨b, off, none⟩ ∧ b < w.heap.size ∧ ∀ i, i < n → ∀ j, j < s → w.cell? ⟨b, off + i * s + j, none⟩ = some (.int .i64 (V i j))) ∧
      ∀ i, i < n → ∀ j, j < s → (Lit.int .i64 (V i j)).wf = true := by
  obtain ⟨a, n', cap, rfl⟩ := okWide_slice ht hv
  obtain ⟨fuel, hfu⟩ := h
  rcases open_slice ht hfu with ⟨hcs, _⟩ | ⟨a', len', cap', m, k, D, Pl, hcs, hb, hl, hm, hmm, hx, hi⟩
  · simp [Value.cells] at hcs
    obtain ⟨rfl, rfl, rfl⟩ := hcs
    exact ⟨none, 0, 0, fun _ _ => 0, rfl, Nat.le_refl _, Nat.zero_le _, fun _ => rfl, .inl rfl, fun i hi => absurd hi (Nat.not_lt_zero _)⟩
  · simp [Value.cells] at hcs
    obtain ⟨rfl, rfl, rfl⟩ := hcs
    simp only [if_true] at hmm
    subst hmm
    have each : ∀ i, i < n' → ∀ j, j < s → ∃ q, w.cell? ((a'.add (i * s)).add j) = some (.int .i64 q) ∧ (Lit.int .i64 q).wf = true := by
      intro i hin j hj
      obtain ⟨cs', h1, h2⟩ := hi i (by omega)
      rw [hC] at h1
      obtain ⟨_, hlen, hcell⟩ := World.cells?_some h1
      have hj' : j < cs'.length := by omega
      obtain ⟨q, hq, hw⟩ := flat_trod _ _ _ _ _ hf h2 j _ (List.getElem?_eq_getElem hj')
      refine ⟨q, ?_, hw⟩
      rw [← hq, ← List.getElem?_eq_getElem hj']
      exact (hcell j (by omega)).symm ▸ rfl
    refine ⟨some a', n', _, fun i j => intOf ((w.cell? ((a'.add (i * s)).add j)).getD (.int .i64 0)), rfl, hl, hm, (fun h => by cases h), ?_, ?_⟩
    · by_cases hn : n' = 0
      · exact .inl hn
      · right
        obtain ⟨b', off, spot⟩ := a'
        obtain ⟨q, hq, _⟩ := each 0 (by omega) 0 hs0
        have hs := World.cell?_spot hq
        simp [Addr.add] at hs
        subst hs
        rw [add_plain, add_plain] at hq
        refine ⟨b', off, rfl, cell_in hq, fun i hin j hj => ?_⟩
        obtain ⟨q, hq, _⟩ := each i hin j hj
        simp only [hq, Option.getD_some, intOf]
        rw [add_plain, add_plain] at hq
        exact hq
    · intro i hin j hj
      obtain ⟨q, hq, hw⟩ := each i hin j hj
      simp only [hq, Option.getD_some, intOf]
      exact hw
end
end Go.Tab
