/-
  Layer 4: each number once (pure).
-/
import Derived.Test.YtigbojdnaeaojaaO16
import Derived.Test.YtigbojdnaeaojaaO1b
namespace Go.Proofs.Ytigbojdnaeaojaa
open Go.RowKit Go.Tab

def uniqStep (D : List Int) (x : Int) : List Int := if D.getLast? = some x then D else D ++ [x]
def uniqF (l : List Int) : List Int := l.foldl uniqStep []
theorem uniqF_snoc (l : List Int) (x : Int) : uniqF (l ++ [x]) = uniqStep (uniqF l) x := by simp [uniqF]
theorem snoc_ind {p : List Int → Prop} (h0 : p []) (h1 : ∀ l x, p l → p (l ++ [x])) : ∀ (n : Nat) (l : List Int), l.length = n → p l
  | 0, l, hn => by rw [List.length_eq_zero_iff.1 hn]; exact h0
  | n + 1, l, hn => by
    have hne : l ≠ [] := fun h => by rw [h] at hn; cases hn
    have hd := List.dropLast_concat_getLast hne
    rw [← hd]
    exact h1 _ _ (snoc_ind h0 h1 n _ (by rw [List.length_dropLast]; omega))
theorem uniqF_last (l : List Int) : (uniqF l).getLast? = l.getLast? := by
  refine snoc_ind (p := fun l => (uniqF l).getLast? = l.getLast?) rfl (fun l x ih => ?_) _ l rfl
  rw [uniqF_snoc]
  unfold uniqStep
  split
  · rename_i h; rw [h]; simp
  · simp
theorem uniqF_len (l : List Int) : (uniqF l).length ≤ l.length := by
  refine snoc_ind (p := fun l => (uniqF l).length ≤ l.length) (Nat.le_refl _) (fun l x ih => ?_) _ l rfl
  rw [uniqF_snoc]
  unfold uniqStep
  split <;> simp <;> omega
theorem uniqF_mem (l : List Int) (x : Int) : x ∈ uniqF l ↔ x ∈ l := by
  refine snoc_ind (p := fun l => x ∈ uniqF l ↔ x ∈ l) (by simp [uniqF]) (fun l y ih => ?_) _ l rfl
  rw [uniqF_snoc]
  unfold uniqStep
  split
  · rename_i h
    have hy : y ∈ uniqF l := List.mem_of_getLast? h
    simp only [List.mem_append, List.mem_singleton]
    constructor
    · intro hx; exact .inl (ih.1 hx)
    · rintro (hx | rfl)
      · exact ih.2 hx
      · exact hy
  · simp only [List.mem_append, List.mem_singleton, ih]

abbrev Strict (l : List Int) : Prop := l.Pairwise fun p q => p < q
theorem Strict.of {l : List Int} (h1 : Up l) (h2 : l.Nodup) : Strict l := by
  refine (h1.and h2).imp fun h => ?_
  have := h.1
  have := h.2
  omega
theorem Strict.up {l : List Int} (h : Strict l) : Up l := h.imp fun h => by omega
theorem Strict.nodup {l : List Int} (h : Strict l) : l.Nodup := h.imp fun h => by omega
theorem strict_ext : ∀ (a b : List Int), Strict a → Strict b → (∀ x, x ∈ a ↔ x ∈ b) → a = b
  | [], [], _, _, _ => rfl
  | [], y :: b, _, _, h => by have := (h y).2 List.mem_cons_self; cases this
  | x :: a, [], _, _, h => by have := (h x).1 List.mem_cons_self; cases this
  | x :: a, y :: b, ha, hb, h => by
    obtain ⟨ha1, ha2⟩ := List.pairwise_cons.1 ha
    obtain ⟨hb1, hb2⟩ := List.pairwise_cons.1 hb
    have hxy : x = y := by
      rcases List.mem_cons.1 ((h x).1 List.mem_cons_self) with h1 | h1
      · exact h1
      · rcases List.mem_cons.1 ((h y).2 List.mem_cons_self) with h2 | h2
        · exact h2.symm
        · have h3 := hb1 x h1; have h4 := ha1 y h2; omega
    subst hxy
    refine congrArg (x :: ·) (strict_ext a b ha2 hb2 fun z => ?_)
    constructor
    · intro hz
      rcases List.mem_cons.1 ((h z).1 (List.mem_cons_of_mem _ hz)) with h1 | h1
      · have := ha1 z hz; omega
      · exact h1
    · intro hz
      rcases List.mem_cons.1 ((h z).2 (List.mem_cons_of_mem _ hz)) with h1 | h1
      · have := hb1 z hz; omega
      · exact h1
theorem uniqF_strict (l : List Int) : Up l → Strict (uniqF l) := by
  refine snoc_ind (p := fun l => Up l → Strict (uniqF l)) (fun _ => List.Pairwise.nil) (fun l x ih hl => ?_) _ l rfl
  obtain ⟨h1, _, h2⟩ := List.pairwise_append.1 hl
  have hs := ih h1
  rw [uniqF_snoc]
  unfold uniqStep
  split
  · exact hs
  · rename_i hne
    refine List.pairwise_append.2 ⟨hs, List.pairwise_singleton _ _, fun q hq y hy => ?_⟩
    rw [List.mem_singleton] at hy
    subst hy
    have h3 := h2 q ((uniqF_mem l q).1 hq) y (List.mem_singleton.2 rfl)
    by_cases he : q = y
    · exfalso
      subst he
      apply hne
      have hD : uniqF l ≠ [] := List.ne_nil_of_mem hq
      rw [List.getLast?_eq_some_getLast hD]
      have h4 := h2 _ ((uniqF_mem l _).1 (List.getLast_mem hD)) q (List.mem_singleton.2 rfl)
      have h5 : q ≤ (uniqF l).getLast hD := by
        have hdd := List.dropLast_concat_getLast hD
        rw [← hdd] at hq hs
        rcases List.mem_append.1 hq with h6 | h6
        · have := (List.pairwise_append.1 hs).2.2 q h6 _ (List.mem_singleton.2 rfl); omega
        · rw [List.mem_singleton] at h6; omega
      congr 1
      omega
    · omega

theorem has_mem {n : Int} {l : List Int} (hl : Up l) : hasF n l = true ↔ n ∈ l := by
  constructor
  · intro h
    unfold hasF at h
    exact List.mem_of_getElem? (of_decide_eq_true h)
  · intro h
    obtain ⟨i, hi, rfl⟩ := List.mem_iff_getElem.1 h
    have e : l.getD i 0 = l[i] := by rw [List.getD_eq_getElem?_getD, List.getElem?_eq_getElem hi]; rfl
    rw [has_iff hl, decide_eq_true_iff]
    have h1 := upp_gt (n := l[i]) hl hi (by omega)
    by_cases h2 : lowF l[i] l ≤ i
    · omega
    · have := low_before (n := l[i]) (l := l) (i := i) (by omega); omega
def runiqStep (D : List Int) (x : Int) : List Int := if hasF x D = true then D else mergeF ltI D [x]
def runiqF (l : List Int) : List Int := l.foldl runiqStep []
theorem runiqF_snoc (l : List Int) (x : Int) : runiqF (l ++ [x]) = runiqStep (runiqF l) x := by simp [runiqF]
theorem runiqF_facts (l : List Int) : Strict (runiqF l) ∧ (∀ x, x ∈ runiqF l ↔ x ∈ l) ∧ (runiqF l).length ≤ l.length := by
  refine snoc_ind (p := fun l => Strict (runiqF l) ∧ (∀ x, x ∈ runiqF l ↔ x ∈ l) ∧ (runiqF l).length ≤ l.length) ⟨List.Pairwise.nil, fun x => by simp [runiqF], Nat.le_refl _⟩ (fun l y ih => ?_) _ l rfl
  obtain ⟨h1, h2, h3⟩ := ih
  rw [runiqF_snoc]
  unfold runiqStep
  split
  · rename_i h
    have hy := (has_mem h1.up).1 h
    refine ⟨h1, fun x => ?_, by rw [List.length_append]; omega⟩
    simp only [List.mem_append, List.mem_singleton]
    constructor
    · intro hx; exact .inl ((h2 x).1 hx)
    · rintro (hx | rfl)
      · exact (h2 x).2 hx
      · exact hy
  · rename_i h
    have hy : ¬ y ∈ runiqF l := fun hm => h ((has_mem h1.up).2 hm)
    have hp := mergeF_perm ltI (runiqF l) [y]
    refine ⟨Strict.of (Rises.merge weakI _ _ h1.up.rises (List.pairwise_singleton _ _)).up (hp.nodup_iff.2 ?_), fun x => ?_, by rw [mergeF_length, List.length_append]; simp; omega⟩
    · exact List.nodup_append.2 ⟨h1.nodup, List.pairwise_singleton _ _, fun a ha b hb => by rw [List.mem_singleton] at hb; subst hb; exact fun e => hy (e ▸ ha)⟩
    · rw [hp.mem_iff]; simp only [List.mem_append, List.mem_singleton, h2]
theorem sort_up (l : List Int) : Up (sortF ltI l) := by
  rw [sortF_eq weakI _ l (Nat.le_refl _)]; exact ins_up l
theorem uniq_eq (l : List Int) : uniqF (sortF ltI l) = runiqF l := by
  obtain ⟨h1, h2, _⟩ := runiqF_facts l
  exact strict_ext _ _ (uniqF_strict _ (sort_up l)) h1 fun x => by rw [uniqF_mem, sortF_mem, h2]
end Go.Proofs.Ytigbojdnaeaojaa
