/-
  Layer 4: merging and sorting, as lists (pure).
-/
namespace Go.Proofs.Ytigbojdnaeaojaa

section
variable {α : Type}

/-- What two lists have, by 'ahead'; of like things those of the first come first. -/
def mergeF (R : α → α → Bool) : List α → List α → List α
  | [], b => b
  | x :: a, [] => x :: a
  | x :: a, y :: b => if R y x then y :: mergeF R (x :: a) b else x :: mergeF R a (y :: b)
termination_by a b => a.length + b.length

theorem mergeF_nil_left (R : α → α → Bool) (b : List α) : mergeF R [] b = b := by rw [mergeF]
theorem mergeF_nil_right (R : α → α → Bool) (a : List α) : mergeF R a [] = a := by cases a <;> rw [mergeF]
theorem mergeF_yes {R : α → α → Bool} {x y : α} (h : R y x = true) (a b : List α) : mergeF R (x :: a) (y :: b) = y :: mergeF R (x :: a) b := by rw [mergeF, if_pos h]
theorem mergeF_no {R : α → α → Bool} {x y : α} (h : R y x = false) (a b : List α) : mergeF R (x :: a) (y :: b) = x :: mergeF R a (y :: b) := by rw [mergeF, if_neg (by simp [h])]

theorem mergeF_length (R : α → α → Bool) (a b : List α) : (mergeF R a b).length = a.length + b.length := by
  induction a, b using mergeF.induct R with
  | case1 b => rw [mergeF]; simp
  | case2 x a => rw [mergeF]; simp
  | case3 x a y b h ih => rw [mergeF_yes h]; simp only [List.length_cons] at ih ⊢; omega
  | case4 x a y b h ih => rw [mergeF_no (by simpa using h)]; simp only [List.length_cons] at ih ⊢; omega

theorem mergeF_perm (R : α → α → Bool) (a b : List α) : (mergeF R a b).Perm (a ++ b) := by
  induction a, b using mergeF.induct R with
  | case1 b => rw [mergeF]; simp
  | case2 x a => rw [mergeF]; simp
  | case3 x a y b h ih =>
    rw [mergeF_yes h]
    exact (List.Perm.cons y ih).trans (List.perm_middle.symm)
  | case4 x a y b h ih =>
    rw [mergeF_no (by simpa using h)]
    exact List.Perm.cons x ih

/-- 'Ahead' is a strict weak order. -/
structure Weak (R : α → α → Bool) : Prop where
  trans : ∀ x y z, R x y = true → R y z = true → R x z = true
  neg : ∀ x y z, R x z = true → R x y = true ∨ R y z = true
  irr : ∀ x, R x x = false

theorem Weak.asym {R : α → α → Bool} (h : Weak R) {x y : α} (hxy : R x y = true) : R y x = false := by
  cases hyx : R y x with
  | false => rfl
  | true => have := h.trans x y x hxy hyx; rw [h.irr] at this; exact this.symm ▸ rfl

theorem mergeF_assoc {R : α → α → Bool} (hR : Weak R) : ∀ (n : Nat) (a b c : List α), a.length + b.length + c.length ≤ n → mergeF R (mergeF R a b) c = mergeF R a (mergeF R b c)
  | 0, a, b, c, hn => by
    have ha : a = [] := List.length_eq_zero_iff.1 (by omega)
    have hb : b = [] := List.length_eq_zero_iff.1 (by omega)
    have hc : c = [] := List.length_eq_zero_iff.1 (by omega)
    subst ha hb hc
    simp [mergeF_nil_left]
  | n + 1, [], b, c, _ => by simp [mergeF_nil_left]
  | n + 1, x :: a, [], c, _ => by simp [mergeF_nil_left, mergeF_nil_right]
  | n + 1, x :: a, y :: b, [], _ => by simp [mergeF_nil_right]
  | n + 1, x :: a, y :: b, z :: c, hn => by
    simp only [List.length_cons] at hn
    cases hyx : R y x with
    | true =>
      rw [mergeF_yes hyx]
      cases hzy : R z y with
      | true =>
        have hzx := hR.trans z y x hzy hyx
        rw [mergeF_yes hzy, mergeF_yes hzy, mergeF_yes hzx, ← mergeF_assoc hR n (x :: a) (y :: b) c (by simp only [List.length_cons]; omega), mergeF_yes hyx]
      | false =>
        rw [mergeF_no hzy, mergeF_no hzy, mergeF_yes hyx, mergeF_assoc hR n (x :: a) b (z :: c) (by simp only [List.length_cons]; omega)]
    | false =>
      rw [mergeF_no hyx]
      cases hzx : R z x with
      | true =>
        have hzy : R z y = true := by
          rcases hR.neg z y x hzx with h | h
          · exact h
          · rw [hyx] at h; cases h
        rw [mergeF_yes hzx, mergeF_yes hzy, mergeF_yes hzx, ← mergeF_assoc hR n (x :: a) (y :: b) c (by simp only [List.length_cons]; omega), mergeF_no hyx]
      | false =>
        rw [mergeF_no hzx, mergeF_assoc hR n a (y :: b) (z :: c) (by simp only [List.length_cons]; omega)]
        cases hzy : R z y with
        | true => rw [mergeF_yes hzy, mergeF_no hzx]
        | false => rw [mergeF_no hzy, mergeF_no hyx]

/-- Sorting by halves. -/
def sortF (R : α → α → Bool) (l : List α) : List α :=
  if h : l.length < 2 then l else mergeF R (sortF R (l.take (l.length / 2))) (sortF R (l.drop (l.length / 2)))
termination_by l.length
decreasing_by
  · rw [List.length_take]; omega
  · rw [List.length_drop]; omega
theorem sortF_few {R : α → α → Bool} {l : List α} (h : l.length < 2) : sortF R l = l := by rw [sortF, dif_pos h]
theorem sortF_many {R : α → α → Bool} {l : List α} (h : ¬ l.length < 2) : sortF R l = mergeF R (sortF R (l.take (l.length / 2))) (sortF R (l.drop (l.length / 2))) := by rw [sortF, dif_neg h]

/-- One by one. -/
def insertsF (R : α → α → Bool) (acc l : List α) : List α := l.foldl (fun o x => mergeF R o [x]) acc
theorem insertsF_nil (R : α → α → Bool) (acc : List α) : insertsF R acc [] = acc := rfl
theorem insertsF_cons (R : α → α → Bool) (acc l : List α) (x : α) : insertsF R acc (x :: l) = insertsF R (mergeF R acc [x]) l := rfl
theorem insertsF_append (R : α → α → Bool) (acc l m : List α) : insertsF R acc (l ++ m) = insertsF R (insertsF R acc l) m := by simp [insertsF]
theorem insertsF_snoc (R : α → α → Bool) (acc l : List α) (x : α) : insertsF R acc (l ++ [x]) = mergeF R (insertsF R acc l) [x] := by simp [insertsF]
theorem insertsF_merge {R : α → α → Bool} (hR : Weak R) (l : List α) : ∀ acc, insertsF R acc l = mergeF R acc (insertsF R [] l) := by
  induction l with
  | nil => intro acc; simp [insertsF, mergeF_nil_right]
  | cons x l ih =>
    intro acc
    rw [insertsF_cons, insertsF_cons, ih (mergeF R acc [x]), ih (mergeF R [] [x]), mergeF_nil_left, mergeF_assoc hR _ acc [x] _ (Nat.le_refl _)]

theorem sortF_eq {R : α → α → Bool} (hR : Weak R) : ∀ (n : Nat) (l : List α), l.length ≤ n → sortF R l = insertsF R [] l
  | n, l, hn => by
    by_cases h : l.length < 2
    · rw [sortF_few h]
      match l, h with
      | [], _ => rfl
      | [x], _ => simp [insertsF, mergeF_nil_left]
    · cases n with
      | zero => omega
      | succ n =>
        rw [sortF_many h, sortF_eq hR n _ (by rw [List.length_take]; omega), sortF_eq hR n _ (by rw [List.length_drop]; omega), ← insertsF_merge hR, ← insertsF_append, List.take_append_drop]

theorem insertsF_perm (R : α → α → Bool) (l : List α) : ∀ acc, (insertsF R acc l).Perm (acc ++ l) := by
  induction l with
  | nil => intro acc; simp [insertsF]
  | cons x l ih =>
    intro acc
    rw [insertsF_cons]
    refine (ih _).trans ?_
    have := (mergeF_perm R acc [x]).append_right l
    simpa using this
theorem insertsF_length (R : α → α → Bool) (acc l : List α) : (insertsF R acc l).length = acc.length + l.length := by
  have := (insertsF_perm R l acc).length_eq
  simpa using this

/-- Nothing comes ahead of what stands before it. -/
abbrev Rises (R : α → α → Bool) (l : List α) : Prop := l.Pairwise fun p q => R q p = false

theorem Rises.merge {R : α → α → Bool} (hR : Weak R) (a b : List α) : Rises R a → Rises R b → Rises R (mergeF R a b) := by
  induction a, b using mergeF.induct R with
  | case1 b => intro _ hb; rw [mergeF]; exact hb
  | case2 x a => intro ha _; rw [mergeF]; exact ha
  | case3 x a y b h ih =>
    intro ha hb
    rw [mergeF_yes h]
    refine List.pairwise_cons.2 ⟨fun q hq => ?_, ih ha (List.pairwise_cons.1 hb).2⟩
    have hq' := (mergeF_perm R (x :: a) b).mem_iff.1 hq
    rcases List.mem_append.1 hq' with hq' | hq'
    · have hxq : R q x = false := by
        rcases List.mem_cons.1 hq' with rfl | hqa
        · exact hR.irr _
        · exact (List.pairwise_cons.1 ha).1 q hqa
      cases hqy : R q y with
      | false => rfl
      | true => have := hR.trans q y x hqy h; rw [hxq] at this; cases this
    · exact (List.pairwise_cons.1 hb).1 q hq'
  | case4 x a y b h ih =>
    intro ha hb
    rw [mergeF_no (by simpa using h)]
    refine List.pairwise_cons.2 ⟨fun q hq => ?_, ih (List.pairwise_cons.1 ha).2 hb⟩
    have hq' := (mergeF_perm R a (y :: b)).mem_iff.1 hq
    rcases List.mem_append.1 hq' with hq' | hq'
    · exact (List.pairwise_cons.1 ha).1 q hq'
    · have hyx : R y x = false := by simpa using h
      rcases List.mem_cons.1 hq' with rfl | hqb
      · exact hyx
      · have hqy := (List.pairwise_cons.1 hb).1 q hqb
        cases hqx : R q x with
        | false => rfl
        | true =>
          rcases hR.neg q y x hqx with h1 | h1
          · rw [hqy] at h1; cases h1
          · rw [hyx] at h1; cases h1

theorem Rises.inserts {R : α → α → Bool} (hR : Weak R) (l : List α) : ∀ acc, Rises R acc → Rises R (insertsF R acc l) := by
  induction l with
  | nil => intro acc h; exact h
  | cons x l ih =>
    intro acc h
    rw [insertsF_cons]
    exact ih _ (h.merge hR _ _ (List.pairwise_singleton _ _))

/-- The place at which one more comes in, from behind. -/
def placeF (R : α → α → Bool) (x : α) (l : List α) : Nat := (l.takeWhile fun y => !R x y).length
theorem mergeF_one {R : α → α → Bool} (x : α) (l : List α) : mergeF R l [x] = l.take (placeF R x l) ++ x :: l.drop (placeF R x l) := by
  induction l with
  | nil => rw [mergeF]; rfl
  | cons y l ih =>
    cases h : R x y with
    | true =>
      rw [mergeF_yes h, mergeF_nil_right]
      simp [placeF, h]
    | false =>
      rw [mergeF_no h, ih]
      simp [placeF, h]
theorem placeF_le {R : α → α → Bool} (x : α) (l : List α) : placeF R x l ≤ l.length := (List.takeWhile_prefix _).length_le
/-- From behind one comes to the same place. -/
theorem placeF_back {R : α → α → Bool} (hR : Weak R) (x : α) : ∀ (l : List α), Rises R l → ∀ k, k ≤ l.length → (∀ i (h : i < l.length), k ≤ i → R x l[i] = true) → (∀ h : k - 1 < l.length, k = 0 ∨ R x l[k - 1] = false) → placeF R x l = k
  | [], _, k, hk, _, _ => by have : k = 0 := by simpa using hk
                             subst this; rfl
  | y :: l, hl, k, hk, h1, h2 => by
    obtain ⟨hy, hl'⟩ := List.pairwise_cons.1 hl
    cases k with
    | zero =>
      have := h1 0 (by simp) (Nat.le_refl _)
      simp only [List.getElem_cons_zero] at this
      simp [placeF, this]
    | succ k =>
      have hxy : R x y = false := by
        rcases h2 (by simp only [List.length_cons] at hk ⊢; omega) with h | h
        · cases h
        · cases k with
          | zero => simpa using h
          | succ k =>
            simp only [Nat.add_sub_cancel, List.getElem_cons_succ] at h
            have hm := hy (l[k]'(by simp only [List.length_cons] at hk; omega)) (List.getElem_mem _)
            cases hxy : R x y with
            | false => rfl
            | true =>
              rcases hR.neg x (l[k]'(by simp only [List.length_cons] at hk; omega)) y hxy with h3 | h3
              · rw [h] at h3; cases h3
              · rw [hm] at h3; cases h3
      have := placeF_back hR x l hl' k (by simpa using hk) (fun i hi hki => by
        have := h1 (i + 1) (by simpa using hi) (by omega)
        simpa using this) (fun hk1 => by
          cases k with
          | zero => exact .inl rfl
          | succ k =>
            rcases h2 (by simp only [List.length_cons] at hk ⊢; omega) with h | h
            · cases h
            · right; simpa using h)
      rw [← this]
      simp [placeF, hxy]
end
end Go.Proofs.Ytigbojdnaeaojaa
