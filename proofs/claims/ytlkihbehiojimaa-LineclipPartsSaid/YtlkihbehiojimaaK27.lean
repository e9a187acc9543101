/-
  Layer 22: runs of edges, edge by edge (pure).
-/
import Derived.Test.YtlkihbehiojimaaK1
namespace Go.Proofs.Ytlkihbehiojimaa

section
variable (s : Nat → Bool)
theorem parts_pw (n : Nat) : (partsI s n 0).Pairwise (fun a b => a.1 < b.1) := (parts_sorted s n _ 0 rfl).1
theorem parts_skip (i : Nat) (hi : 1 ≤ i) (h : s (i - 1) = false) : partsI s (i + 1) 0 = partsI s i 0 := by
  refine sorted_ext (parts_pw s _) (parts_pw s _) fun p => ?_
  rw [parts_maxi, parts_maxi]
  unfold Maxi
  have key : ∀ p2 : Nat, p.1 < p2 → p2 = i → (∀ k, p.1 ≤ k → k < p2 → s k = true) → False := fun p2 h1 h2 h3 => by
    have := h3 (i - 1) (by omega) (by omega); rw [h] at this; cases this
  constructor
  · rintro ⟨h1, h2, h3, h4, h5⟩
    have h6 : p.2 ≠ i := fun e => key p.2 h1 e h3
    refine ⟨h1, by omega, h3, h4, ?_⟩
    rcases h5 with h5 | h5
    · omega
    · exact .inr h5
  · rintro ⟨h1, h2, h3, h4, h5⟩
    refine ⟨h1, by omega, h3, h4, ?_⟩
    rcases h5 with h5 | h5
    · right; rw [show p.2 = i - 1 by omega]; exact h
    · exact .inr h5
theorem parts_new (i : Nat) (hi : 1 ≤ i) (h : s (i - 1) = true) (hg : i = 1 ∨ s (i - 2) = false) : partsI s (i + 1) 0 = partsI s i 0 ++ [(i - 1, i)] := by
  refine sorted_ext (parts_pw s _) (List.pairwise_append.2 ⟨parts_pw s _, List.pairwise_singleton _ _, fun p hp q hq => ?_⟩) fun p => ?_
  · rw [List.mem_singleton] at hq
    subst hq
    obtain ⟨h1, h2, -⟩ := (parts_maxi s i p).1 hp
    show p.1 < i - 1
    omega
  · rw [List.mem_append, List.mem_singleton, parts_maxi, parts_maxi]
    constructor
    · rintro ⟨h1, h2, h3, h4, h5⟩
      by_cases he : p.2 = i
      · right
        have h6 : p.1 = i - 1 := by
          by_cases hlt : p.1 < i - 1
          · exfalso
            have := h3 (i - 2) (by omega) (by omega)
            rcases hg with hg | hg
            · omega
            · rw [hg] at this; cases this
          · omega
        exact Prod.ext h6 he
      · left
        refine ⟨h1, by omega, h3, h4, ?_⟩
        rcases h5 with h5 | h5
        · omega
        · exact .inr h5
    · rintro (⟨h1, h2, h3, h4, h5⟩ | rfl)
      · refine ⟨h1, by omega, h3, h4, ?_⟩
        rcases h5 with h5 | h5
        · exfalso
          have := h3 (i - 2) (by omega) (by omega)
          rcases hg with hg | hg
          · omega
          · rw [hg] at this; cases this
        · exact .inr h5
      · refine ⟨by show i - 1 < i; omega, by show i < i + 1; omega, fun k h1 h2 => ?_, ?_, .inl rfl⟩
        · have h1 : i - 1 ≤ k := h1
          have h2 : k < i := h2
          rw [show k = i - 1 by omega]; exact h
        · rcases hg with hg | hg
          · left; show i - 1 = 0; omega
          · right; show s (i - 1 - 1) = false; rw [show i - 1 - 1 = i - 2 by omega]; exact hg
theorem run_start : ∀ m, s m = true → ∃ a, a ≤ m ∧ (∀ k, a ≤ k → k ≤ m → s k = true) ∧ (a = 0 ∨ s (a - 1) = false)
  | 0, h => ⟨0, Nat.le_refl _, fun k _ hk => by rw [show k = 0 by omega]; exact h, .inl rfl⟩
  | m + 1, h => by
    cases hm : s m with
    | false => exact ⟨m + 1, Nat.le_refl _, fun k h1 h2 => by rw [show k = m + 1 by omega]; exact h, .inr hm⟩
    | true =>
      obtain ⟨a, h1, h2, h3⟩ := run_start m hm
      refine ⟨a, by omega, fun k hk1 hk2 => ?_, h3⟩
      by_cases he : k = m + 1
      · rw [he]; exact h
      · exact h2 k hk1 (by omega)
theorem parts_on (i : Nat) (h2i : 2 ≤ i) (h : s (i - 1) = true) (hg : s (i - 2) = true) : ∃ D a, a < i - 1 ∧ partsI s i 0 = D ++ [(a, i - 1)] ∧ partsI s (i + 1) 0 = D ++ [(a, i)] := by
  obtain ⟨a, ha, hrun, hstart⟩ := run_start s (i - 2) hg
  have hpw : ((partsI s i 0).filter fun p => decide (p.1 < a)).Pairwise (fun x y => x.1 < y.1) := (parts_pw s i).filter _
  have hb : ∀ e : Nat, ∀ p ∈ (partsI s i 0).filter (fun p => decide (p.1 < a)), ∀ q ∈ [(a, e)], p.1 < q.1 := fun e p hp q hq => by
    rw [List.mem_singleton] at hq; subst hq
    have := (List.mem_filter.1 hp).2
    exact of_decide_eq_true this
  refine ⟨(partsI s i 0).filter fun p => decide (p.1 < a), a, by omega, ?_, ?_⟩
  · refine sorted_ext (parts_pw s _) (List.pairwise_append.2 ⟨hpw, List.pairwise_singleton _ _, hb _⟩) fun p => ?_
    rw [List.mem_append, List.mem_singleton, List.mem_filter, parts_maxi, decide_eq_true_eq]
    constructor
    · intro hp
      by_cases hlt : p.1 < a
      · exact .inl ⟨hp, hlt⟩
      · right
        obtain ⟨h1, h2, h3, h4, h5⟩ := hp
        have e1 : p.1 = a := by
          by_cases hgt : a < p.1
          · exfalso
            rcases h4 with h4 | h4
            · omega
            · have := hrun (p.1 - 1) (by omega) (by omega); rw [h4] at this; cases this
          · omega
        have e2 : p.2 = i - 1 := by
          rcases h5 with h5 | h5
          · omega
          · by_cases hlt2 : p.2 < i - 1
            · exfalso; have := hrun p.2 (by omega) (by omega); rw [h5] at this; cases this
            · omega
        exact Prod.ext e1 e2
    · rintro (⟨hp, -⟩ | rfl)
      · exact hp
      · exact ⟨by show a < i - 1; omega, by show i - 1 < i; omega, fun k h1 h2 => hrun k h1 (by have h2 : k < i - 1 := h2; omega), hstart, .inl (by show i - 1 + 1 = i; omega)⟩
  · refine sorted_ext (parts_pw s _) (List.pairwise_append.2 ⟨hpw, List.pairwise_singleton _ _, hb _⟩) fun p => ?_
    rw [List.mem_append, List.mem_singleton, List.mem_filter, parts_maxi, parts_maxi, decide_eq_true_eq]
    have hrun2 : ∀ k, a ≤ k → k < i → s k = true := fun k h1 h2 => by
      by_cases he : k = i - 1
      · rw [he]; exact h
      · exact hrun k h1 (by omega)
    constructor
    · rintro ⟨h1, h2, h3, h4, h5⟩
      by_cases hlt : p.1 < a
      · left
        have hs : s (a - 1) = false := by
          rcases hstart with h6 | h6
          · omega
          · exact h6
        have hle : p.2 ≤ a - 1 := by
          by_cases hc : a - 1 < p.2
          · exfalso; have := h3 (a - 1) (by omega) hc; rw [hs] at this; cases this
          · omega
        refine ⟨⟨h1, by omega, h3, h4, ?_⟩, hlt⟩
        rcases h5 with h5 | h5
        · omega
        · exact .inr h5
      · right
        have e1 : p.1 = a := by
          by_cases hgt : a < p.1
          · exfalso
            rcases h4 with h4 | h4
            · omega
            · have := hrun2 (p.1 - 1) (by omega) (by omega); rw [h4] at this; cases this
          · omega
        have e2 : p.2 = i := by
          rcases h5 with h5 | h5
          · omega
          · by_cases hlt2 : p.2 < i
            · exfalso; have := hrun2 p.2 (by omega) hlt2; rw [h5] at this; cases this
            · omega
        exact Prod.ext e1 e2
    · rintro (⟨⟨h1, h2, h3, h4, h5⟩, hlt⟩ | rfl)
      · have hs : s (a - 1) = false := by
          rcases hstart with h6 | h6
          · omega
          · exact h6
        have hle : p.2 ≤ a - 1 := by
          by_cases hc : a - 1 < p.2
          · exfalso; have := h3 (a - 1) (by omega) hc; rw [hs] at this; cases this
          · omega
        refine ⟨h1, by omega, h3, h4, ?_⟩
        rcases h5 with h5 | h5
        · omega
        · exact .inr h5
      · exact ⟨by show a < i; omega, by show i < i + 1; omega, fun k h1 h2 => hrun2 k h1 h2, hstart, .inl rfl⟩
theorem parts_one : partsI s 1 0 = [] := by
  refine List.eq_nil_iff_forall_not_mem.2 fun p hp => ?_
  obtain ⟨h1, h2, -⟩ := (parts_maxi s 1 p).1 hp
  omega
end
end Go.Proofs.Ytlkihbehiojimaa
