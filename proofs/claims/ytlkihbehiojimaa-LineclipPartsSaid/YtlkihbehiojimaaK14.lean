/-
  Layer 22: rows put together: the mathematics.
-/
import Derived.Test.YtlkihbehiojimaaE2n
namespace Go.Proofs.Ytlkihbehiojimaa

abbrev Row2 := List (Int × Int)
/-- One row more: what is done, and the row that may go on. -/
def joinS (s : List Row2 × Row2) (p : Row2) : List Row2 × Row2 :=
  if p = [] then s else if s.2 ≠ [] ∧ s.2.getLast? = p.head? then (s.1, s.2 ++ p.tail) else (if s.2 = [] then s.1 else s.1 ++ [s.2], p)
def outS (s : List Row2 × Row2) : List Row2 := if s.2 = [] then s.1 else s.1 ++ [s.2]
def joinF (ps : List Row2) : List Row2 := outS (ps.foldl joinS ([], []))
/-- No row is empty, and none goes on where the one ahead ends. -/
def goodC : List Row2 → Prop
  | [] => True
  | [q] => q ≠ []
  | q :: r :: t => q ≠ [] ∧ q.getLast? ≠ r.head? ∧ goodC (r :: t)
theorem goodC_swap : ∀ (d : List Row2) (c c' : Row2), goodC (d ++ [c]) → c' ≠ [] → c'.head? = c.head? → goodC (d ++ [c'])
  | [], _, _, _, h', _ => h'
  | [q], c, c', h, h', e => by
    simp only [List.cons_append, List.nil_append, goodC] at h ⊢
    exact ⟨h.1, by rw [e]; exact h.2.1, h'⟩
  | q :: r :: t, c, c', h, h', e => by
    simp only [List.cons_append, goodC] at h ⊢
    exact ⟨h.1, h.2.1, goodC_swap (r :: t) c c' h.2.2 h' e⟩
theorem goodC_more : ∀ (d : List Row2) (c p : Row2), goodC (d ++ [c]) → p ≠ [] → c.getLast? ≠ p.head? → goodC (d ++ [c] ++ [p])
  | [], c, p, h, hp, hne => ⟨h, hne, hp⟩
  | [q], c, p, h, hp, hne => by
    simp only [List.cons_append, List.nil_append, goodC] at h ⊢
    exact ⟨h.1, h.2.1, h.2.2, hne, hp⟩
  | q :: r :: t, c, p, h, hp, hne => by
    have ih := goodC_more (r :: t) c p (by simp only [List.cons_append, goodC] at h ⊢; exact h.2.2) hp hne
    simp only [List.cons_append, goodC] at h ih ⊢
    exact ⟨h.1, h.2.1, ih⟩
/-- While rows come in. -/
def goodS (s : List Row2 × Row2) : Prop := (s.2 = [] → s.1 = []) ∧ goodC (outS s)
theorem goodS_step (s : List Row2 × Row2) (p : Row2) (h : goodS s) : goodS (joinS s p) := by
  obtain ⟨h1, h2⟩ := h
  unfold joinS
  by_cases hp : p = []
  · rw [if_pos hp]; exact ⟨h1, h2⟩
  · rw [if_neg hp]
    by_cases hc : s.2 ≠ [] ∧ s.2.getLast? = p.head?
    · rw [if_pos hc]
      have hne : s.2 ++ p.tail ≠ [] := fun h => hc.1 (List.append_eq_nil_iff.1 h).1
      refine ⟨fun h => absurd h hne, ?_⟩
      unfold outS at h2 ⊢
      rw [if_neg hc.1] at h2
      rw [if_neg hne]
      refine goodC_swap _ _ _ h2 hne ?_
      cases hs : s.2 with
      | nil => exact absurd hs hc.1
      | cons x t => rfl
    · rw [if_neg hc]
      refine ⟨fun h => absurd h hp, ?_⟩
      unfold outS at h2 ⊢
      rw [if_neg hp]
      by_cases hs : s.2 = []
      · rw [if_pos hs, h1 hs]; exact hp
      · simp only [if_neg hs] at h2 ⊢
        exact goodC_more _ _ _ h2 hp fun h => hc ⟨hs, h⟩
theorem goodS_fold (ps : List Row2) : ∀ s, goodS s → goodS (ps.foldl joinS s) := by
  induction ps with
  | nil => exact fun s h => h
  | cons p ps ih => exact fun s h => ih _ (goodS_step s p h)
theorem join_good (ps : List Row2) : goodC (joinF ps) := (goodS_fold ps ([], []) ⟨fun _ => rfl, trivial⟩).2
theorem fold_good (qs : List Row2) : ∀ s, goodC qs → (s.2 = [] → s.1 = []) → (s.2 = [] ∨ ∀ q ∈ qs.head?, s.2.getLast? ≠ q.head?) → outS (qs.foldl joinS s) = outS s ++ qs := by
  induction qs with
  | nil => intro s _ _ _; simp
  | cons q qs ih =>
    intro s hg h1 h2
    have hq : q ≠ [] := by
      cases qs with
      | nil => exact hg
      | cons r t => exact hg.1
    have hstep : joinS s q = (if s.2 = [] then s.1 else s.1 ++ [s.2], q) := by
      unfold joinS
      rw [if_neg hq, if_neg]
      rintro ⟨hc1, hc2⟩
      rcases h2 with h | h
      · exact hc1 h
      · exact h q rfl hc2
    rw [List.foldl_cons, hstep, ih _ ?_ (fun h => absurd h hq) ?_]
    · simp only [outS, if_neg hq]
      split <;> simp
    · cases qs with
      | nil => trivial
      | cons r t => exact hg.2.2
    · right
      intro r hr
      cases qs with
      | nil => cases hr
      | cons r' t => cases hr; exact hg.2.1
/-- What is put together stays so. -/
theorem join_join (ps : List Row2) : joinF (joinF ps) = joinF ps := by
  have := fold_good (joinF ps) ([], []) (join_good ps) (fun _ => rfl) (.inl rfl)
  rwa [show outS ([], []) = [] from rfl, List.nil_append] at this
/-- As many rows at most as came in. -/
theorem join_len (ps : List Row2) : ∀ s, (outS (ps.foldl joinS s)).length ≤ (outS s).length + ps.length := by
  induction ps with
  | nil => intro s; simp
  | cons p ps ih =>
    intro s
    have h1 := ih (joinS s p)
    have h2 : (outS (joinS s p)).length ≤ (outS s).length + 1 := by
      unfold joinS outS
      by_cases hp : p = []
      · rw [if_pos hp]; omega
      · rw [if_neg hp]
        by_cases hc : s.2 ≠ [] ∧ s.2.getLast? = p.head?
        · rw [if_pos hc]
          simp only [if_neg hc.1]
          split <;> simp <;> omega
        · rw [if_neg hc]
          simp only [if_neg hp, List.length_append, List.length_cons, List.length_nil]
          omega
    rw [List.foldl_cons, List.length_cons]
    omega
end Go.Proofs.Ytlkihbehiojimaa
