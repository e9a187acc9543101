/-
  Layer 22: runs of edges that are shown (pure).
-/
import Derived.Test.YtlkihbehiojimaaK0
namespace Go.Proofs.Ytlkihbehiojimaa

section
variable (s : Nat → Bool) (n : Nat)
def runEnd (i : Nat) : Nat :=
  if h : i + 1 < n ∧ s i = true then runEnd (i + 1) else i
termination_by n - i
decreasing_by omega
theorem runEnd_yes {i : Nat} (h : i + 1 < n) (h2 : s i = true) : runEnd s n i = runEnd s n (i + 1) := by rw [runEnd, dif_pos ⟨h, h2⟩]
theorem runEnd_no {i : Nat} (h : ¬ (i + 1 < n ∧ s i = true)) : runEnd s n i = i := by rw [runEnd, dif_neg h]
theorem runEnd_spec (m : Nat) : ∀ i, n - i = m → i ≤ runEnd s n i ∧ (i < n → runEnd s n i < n) ∧ (∀ k, i ≤ k → k < runEnd s n i → s k = true) ∧ ¬ (runEnd s n i + 1 < n ∧ s (runEnd s n i) = true) := by
  induction m using Nat.strongRecOn with
  | _ m ih =>
    intro i hm
    by_cases h : i + 1 < n ∧ s i = true
    · rw [runEnd_yes s n h.1 h.2]
      obtain ⟨h1, h2, h3, h4⟩ := ih (n - (i + 1)) (by omega) (i + 1) rfl
      refine ⟨by omega, fun hi => h2 (by omega), fun k hk1 hk2 => ?_, h4⟩
      by_cases hki : k = i
      · rw [hki]; exact h.2
      · exact h3 k (by omega) hk2
    · rw [runEnd_no s n h]
      exact ⟨Nat.le_refl _, fun h => h, fun k h1 h2 => absurd h2 (by omega), h⟩
theorem runEnd_ge (i : Nat) : i ≤ runEnd s n i := (runEnd_spec s n _ i rfl).1
def partsI (i : Nat) : List (Nat × Nat) :=
  if h : i < n then (if i < runEnd s n i then [(i, runEnd s n i)] else []) ++ partsI (runEnd s n i + 1) else []
termination_by n - i
decreasing_by have := runEnd_ge s n i; omega
theorem partsI_end {i : Nat} (h : ¬ i < n) : partsI s n i = [] := by rw [partsI, dif_neg h]
theorem partsI_step {i : Nat} (h : i < n) : partsI s n i = (if i < runEnd s n i then [(i, runEnd s n i)] else []) ++ partsI s n (runEnd s n i + 1) := by rw [partsI, dif_pos h]

/-- A run that can't be longer. -/
def Maxi (p : Nat × Nat) : Prop := p.1 < p.2 ∧ p.2 < n ∧ (∀ k, p.1 ≤ k → k < p.2 → s k = true) ∧ (p.1 = 0 ∨ s (p.1 - 1) = false) ∧ (p.2 + 1 = n ∨ s p.2 = false)
theorem parts_mem (m : Nat) : ∀ i0, n - i0 = m → (i0 = 0 ∨ s (i0 - 1) = false ∨ n ≤ i0) → ∀ p, p ∈ partsI s n i0 ↔ (Maxi s n p ∧ i0 ≤ p.1) := by
  induction m using Nat.strongRecOn with
  | _ m ih =>
    intro i0 hm h0 p
    by_cases hi : i0 < n
    · obtain ⟨r1, r2, r3, r4⟩ := runEnd_spec s n _ i0 rfl
      have r2 := r2 hi
      rw [partsI_step s n hi]
      have h0' : i0 = 0 ∨ s (i0 - 1) = false := by rcases h0 with h | h | h; exact .inl h; exact .inr h; omega
      have IH := ih (n - (runEnd s n i0 + 1)) (by omega) (runEnd s n i0 + 1) rfl (by
        by_cases hn : runEnd s n i0 + 1 < n
        · right; left
          rw [Nat.add_sub_cancel]
          cases hs : s (runEnd s n i0) with
          | false => rfl
          | true => exact absurd ⟨hn, hs⟩ r4
        · right; right; omega) p
      rw [List.mem_append, IH]
      constructor
      · rintro (hp | ⟨h1, h2⟩)
        · split at hp
          · rename_i hlt
            rw [List.mem_singleton] at hp
            subst hp
            refine ⟨⟨hlt, r2, r3, h0', ?_⟩, Nat.le_refl _⟩
            by_cases hn : runEnd s n i0 + 1 < n
            · right
              cases hs : s (runEnd s n i0) with
              | false => rfl
              | true => exact absurd ⟨hn, hs⟩ r4
            · left; show runEnd s n i0 + 1 = n; omega
          · cases hp
        · exact ⟨h1, by omega⟩
      · rintro ⟨hM, hle⟩
        obtain ⟨m1, m2, m3, m4, m5⟩ := hM
        by_cases hpi : p.1 = i0
        · left
          have hj : p.2 = runEnd s n i0 := by
            rcases Nat.lt_trichotomy p.2 (runEnd s n i0) with h | h | h
            · exfalso
              have := r3 p.2 (by omega) h
              rcases m5 with m5 | m5
              · omega
              · rw [this] at m5; cases m5
            · exact h
            · exfalso
              exact r4 ⟨by omega, m3 _ (by omega) h⟩
          rw [if_pos (by omega), List.mem_singleton]
          exact Prod.ext hpi hj
        · right
          refine ⟨⟨m1, m2, m3, m4, m5⟩, ?_⟩
          by_cases hle2 : p.1 ≤ runEnd s n i0
          · exfalso
            rcases m4 with m4 | m4
            · omega
            · have := r3 (p.1 - 1) (by omega) (by omega)
              rw [this] at m4; cases m4
          · omega
    · rw [partsI_end s n hi]
      constructor
      · intro h; cases h
      · rintro ⟨⟨m1, m2, _⟩, hle⟩; omega
theorem parts_sorted (m : Nat) : ∀ i0, n - i0 = m → (partsI s n i0).Pairwise (fun a b => a.1 < b.1) ∧ ∀ p ∈ partsI s n i0, i0 ≤ p.1 := by
  induction m using Nat.strongRecOn with
  | _ m ih =>
    intro i0 hm
    by_cases hi : i0 < n
    · have r1 := runEnd_ge s n i0
      obtain ⟨h1, h2⟩ := ih (n - (runEnd s n i0 + 1)) (by omega) (runEnd s n i0 + 1) rfl
      rw [partsI_step s n hi]
      refine ⟨List.pairwise_append.2 ⟨?_, h1, fun a ha b hb => ?_⟩, fun p hp => ?_⟩
      · split
        · exact List.pairwise_singleton _ _
        · exact List.Pairwise.nil
      · split at ha
        · rw [List.mem_singleton] at ha
          subst ha
          have := h2 b hb
          show i0 < b.1
          omega
        · cases ha
      · rcases List.mem_append.1 hp with hp | hp
        · split at hp
          · rw [List.mem_singleton] at hp; subst hp; exact Nat.le_refl _
          · cases hp
        · have := h2 p hp; omega
    · rw [partsI_end s n hi]
      exact ⟨List.Pairwise.nil, fun p hp => by cases hp⟩
theorem parts_maxi (p : Nat × Nat) : p ∈ partsI s n 0 ↔ Maxi s n p := by
  rw [parts_mem s n _ 0 rfl (.inl rfl)]
  exact ⟨fun h => h.1, fun h => ⟨h, Nat.zero_le _⟩⟩
end

theorem sorted_ext {a b : List (Nat × Nat)} (ha : a.Pairwise (fun x y => x.1 < y.1)) (hb : b.Pairwise (fun x y => x.1 < y.1)) (h : ∀ p, p ∈ a ↔ p ∈ b) : a = b := by
  have nd : ∀ {l : List (Nat × Nat)}, l.Pairwise (fun x y => x.1 < y.1) → l.Nodup := fun hl => hl.imp fun {x y} hxy e => by subst e; omega
  have hp : a.Perm b := (List.perm_ext_iff_of_nodup (nd ha) (nd hb)).2 h
  exact List.Perm.eq_of_pairwise (fun x y _ _ h1 h2 => by omega) ha hb hp

/-- The other way round. -/
def flipI (n : Nat) (p : Nat × Nat) : Nat × Nat := (n - 1 - p.2, n - 1 - p.1)
theorem parts_flip (s t : Nat → Bool) (n : Nat) (hst : ∀ k, k + 1 < n → t k = s (n - 2 - k)) : partsI t n 0 = ((partsI s n 0).map (flipI n)).reverse := by
  refine sorted_ext (parts_sorted t n _ 0 rfl).1 ?_ fun p => ?_
  · rw [List.pairwise_reverse, List.pairwise_map]
    have h := (parts_sorted s n _ 0 rfl).1
    refine (List.pairwise_iff_getElem.2 fun i j hi hj hij => ?_)
    have h1 := List.pairwise_iff_getElem.1 h i j hi hj hij
    have m1 := (parts_maxi s n _).1 (List.getElem_mem hi)
    have m2 := (parts_maxi s n _).1 (List.getElem_mem hj)
    generalize (partsI s n 0)[i] = a at *
    generalize (partsI s n 0)[j] = b at *
    obtain ⟨a1, a2, a3, a4, a5⟩ := m1
    obtain ⟨b1, b2, b3, b4, b5⟩ := m2
    show n - 1 - b.2 < n - 1 - a.2
    by_cases hab : a.2 < b.2
    · omega
    · exfalso
      rcases b4 with h | h
      · omega
      · rw [a3 (b.1 - 1) (by omega) (by omega)] at h; cases h
  · have key : ∀ q, Maxi t n q → Maxi s n (flipI n q) := by
      intro q ⟨q1, q2, q3, q4, q5⟩
      refine ⟨?_, ?_, fun k hk1 hk2 => ?_, ?_, ?_⟩
      · show n - 1 - q.2 < n - 1 - q.1; omega
      · show n - 1 - q.1 < n; omega
      · have hk1 : n - 1 - q.2 ≤ k := hk1
        have hk2 : k < n - 1 - q.1 := hk2
        have := q3 (n - 2 - k) (by omega) (by omega)
        rw [hst _ (by omega), show n - 2 - (n - 2 - k) = k by omega] at this
        exact this
      · show n - 1 - q.2 = 0 ∨ s (n - 1 - q.2 - 1) = false
        rcases q5 with h | h
        · left; omega
        · by_cases hq : q.2 + 1 = n
          · left; omega
          · right
            rw [hst _ (by omega)] at h
            rw [show n - 1 - q.2 - 1 = n - 2 - q.2 by omega]; exact h
      · show n - 1 - q.1 + 1 = n ∨ s (n - 1 - q.1) = false
        rcases q4 with h | h
        · left; omega
        · by_cases hq : q.1 = 0
          · left; omega
          · right
            rw [hst _ (by omega)] at h
            rw [show n - 1 - q.1 = n - 2 - (q.1 - 1) by omega]; exact h
    have key2 : ∀ q, Maxi s n q → Maxi t n (flipI n q) := by
      intro q ⟨q1, q2, q3, q4, q5⟩
      refine ⟨?_, ?_, fun k hk1 hk2 => ?_, ?_, ?_⟩
      · show n - 1 - q.2 < n - 1 - q.1; omega
      · show n - 1 - q.1 < n; omega
      · have hk1 : n - 1 - q.2 ≤ k := hk1
        have hk2 : k < n - 1 - q.1 := hk2
        rw [hst _ (by omega)]
        exact q3 _ (by omega) (by omega)
      · show n - 1 - q.2 = 0 ∨ t (n - 1 - q.2 - 1) = false
        rcases q5 with h | h
        · left; omega
        · by_cases hq : q.2 + 1 = n
          · left; omega
          · right
            rw [hst _ (by omega), show n - 2 - (n - 1 - q.2 - 1) = q.2 by omega]; exact h
      · show n - 1 - q.1 + 1 = n ∨ t (n - 1 - q.1) = false
        rcases q4 with h | h
        · left; omega
        · by_cases hq : q.1 = 0
          · left; omega
          · right
            rw [hst _ (by omega), show n - 2 - (n - 1 - q.1) = q.1 - 1 by omega]; exact h
    have inv : ∀ q : Nat × Nat, q.1 < n → q.2 < n → flipI n (flipI n q) = q := fun q h1 h2 => by
      unfold flipI
      exact Prod.ext (by show n - 1 - (n - 1 - q.1) = q.1; omega) (by show n - 1 - (n - 1 - q.2) = q.2; omega)
    rw [parts_maxi, List.mem_reverse, List.mem_map]
    constructor
    · intro h
      exact ⟨flipI n p, (parts_maxi s n _).2 (key p h), inv p (by have := h.1; have := h.2.1; omega) h.2.1⟩
    · rintro ⟨q, hq, rfl⟩
      exact key2 q ((parts_maxi s n q).1 hq)
end Go.Proofs.Ytlkihbehiojimaa
