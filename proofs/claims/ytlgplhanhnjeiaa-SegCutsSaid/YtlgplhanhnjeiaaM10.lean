/-
  Layer 2: classes whichever is told first, cuts from whichever end.
-/
import Derived.Test.YtlgplhanhnjeiaaM9
namespace Go.Proofs.Ytlgplhanhnjeiaa
open Go.RowKit Go.Tab Go.Sort

theorem bi_and {p e : Bool} (h : e = true → p = true) : bi (p && e) = bi e := by
  cases e with
  | false => simp
  | true => rw [h rfl]; rfl
theorem ends_sum {a b c d : Pt} (hab : a ≠ b) (hcd : c ≠ d) : bi (decide (a = c ∨ a = d)) + bi (decide (b = c ∨ b = d)) = bi (decide (c = a ∨ c = b)) + bi (decide (d = a ∨ d = b)) := by
  have e1 : decide (c = a ∨ c = b) = (decide (a = c) || decide (b = c)) := by rw [Bool.eq_iff_iff]; simp only [decide_eq_true_eq, Bool.or_eq_true]; rw [eq_comm (a := c) (b := a), eq_comm (a := c) (b := b)]
  have e2 : decide (d = a ∨ d = b) = (decide (a = d) || decide (b = d)) := by rw [Bool.eq_iff_iff]; simp only [decide_eq_true_eq, Bool.or_eq_true]; rw [eq_comm (a := d) (b := a), eq_comm (a := d) (b := b)]
  have e3 : decide (a = c ∨ a = d) = (decide (a = c) || decide (a = d)) := by rw [Bool.eq_iff_iff]; simp only [decide_eq_true_eq, Bool.or_eq_true]
  have e4 : decide (b = c ∨ b = d) = (decide (b = c) || decide (b = d)) := by rw [Bool.eq_iff_iff]; simp only [decide_eq_true_eq, Bool.or_eq_true]
  rw [e1, e2, e3, e4]
  have n1 : ¬ (decide (a = c) = true ∧ decide (a = d) = true) := by rw [decide_eq_true_iff, decide_eq_true_iff]; exact fun h => hcd (h.1.symm.trans h.2)
  have n2 : ¬ (decide (b = c) = true ∧ decide (b = d) = true) := by rw [decide_eq_true_iff, decide_eq_true_iff]; exact fun h => hcd (h.1.symm.trans h.2)
  have n3 : ¬ (decide (a = c) = true ∧ decide (b = c) = true) := by rw [decide_eq_true_iff, decide_eq_true_iff]; exact fun h => hab (h.1.trans h.2.symm)
  have n4 : ¬ (decide (a = d) = true ∧ decide (b = d) = true) := by rw [decide_eq_true_iff, decide_eq_true_iff]; exact fun h => hab (h.1.trans h.2.symm)
  generalize decide (a = c) = p1 at *
  generalize decide (a = d) = p2 at *
  generalize decide (b = c) = p3 at *
  generalize decide (b = d) = p4 at *
  clear e1 e2 e3 e4
  revert n1 n2 n3 n4
  cases p1 <;> cases p2 <;> cases p3 <;> cases p4 <;> decide
theorem refF_swap {a b c d : Pt} (hab : a ≠ b) (hcd : c ≠ d) : refF a b c d = refF c d a b := by
  have k1 : bi (on c d a && decide (a = c ∨ a = d)) = bi (decide (a = c ∨ a = d)) := bi_and (fun h => by
    rcases of_decide_eq_true h with rfl | rfl
    · exact on_first _ _ hcd
    · exact on_last _ _ hcd)
  have k2 : bi (on c d b && decide (b = c ∨ b = d)) = bi (decide (b = c ∨ b = d)) := bi_and (fun h => by
    rcases of_decide_eq_true h with rfl | rfl
    · exact on_first _ _ hcd
    · exact on_last _ _ hcd)
  have k3 : bi (on a b c && decide (c = a ∨ c = b)) = bi (decide (c = a ∨ c = b)) := bi_and (fun h => by
    rcases of_decide_eq_true h with rfl | rfl
    · exact on_first _ _ hab
    · exact on_last _ _ hab)
  have k4 : bi (on a b d && decide (d = a ∨ d = b)) = bi (decide (d = a ∨ d = b)) := bi_and (fun h => by
    rcases of_decide_eq_true h with rfl | rfl
    · exact on_first _ _ hab
    · exact on_last _ _ hab)
  have hs : decide ((a = c ∧ b = d) ∨ (a = d ∧ b = c)) = decide ((c = a ∧ d = b) ∨ (c = b ∧ d = a)) := by
    rw [Bool.eq_iff_iff]; simp only [decide_eq_true_eq]
    constructor
    · rintro (⟨h1, h2⟩ | ⟨h1, h2⟩)
      · exact .inl ⟨h1.symm, h2.symm⟩
      · exact .inr ⟨h2.symm, h1.symm⟩
    · rintro (⟨h1, h2⟩ | ⟨h1, h2⟩)
      · exact .inl ⟨h1.symm, h2.symm⟩
      · exact .inr ⟨h2.symm, h1.symm⟩
  have hz := ends_sum hab hcd
  unfold refF refN
  rw [k1, k2, k3, k4, hs, hz, show bi (on c d a) + bi (on c d b) + (bi (on a b c) + bi (on a b d)) = bi (on a b c) + bi (on a b d) + (bi (on c d a) + bi (on c d b)) by omega]
  simp only [and_comm (a := signI (cr a b c) ≠ signI (cr a b d))]
theorem on_flip (a b p : Pt) : on b a p = on a b p := on_comm _ _ _ _ _ _
theorem refF_flip (a b c d : Pt) : refF b a c d = refF a b c d := by
  have hs : decide ((b = c ∧ a = d) ∨ (b = d ∧ a = c)) = decide ((a = c ∧ b = d) ∨ (a = d ∧ b = c)) := by
    rw [Bool.eq_iff_iff]; simp only [decide_eq_true_eq]
    constructor
    · rintro (⟨h1, h2⟩ | ⟨h1, h2⟩)
      · exact .inr ⟨h2, h1⟩
      · exact .inl ⟨h2, h1⟩
    · rintro (⟨h1, h2⟩ | ⟨h1, h2⟩)
      · exact .inr ⟨h2, h1⟩
      · exact .inl ⟨h2, h1⟩
  have e1 : (signI (cr b a c) ≠ signI (cr b a d) ∧ signI (cr c d b) ≠ signI (cr c d a)) ↔ (signI (cr a b c) ≠ signI (cr a b d) ∧ signI (cr c d a) ≠ signI (cr c d b)) := by
    rw [cr_swap2 a b c, cr_swap2 a b d, sign_neg, sign_neg]; omega
  unfold refF refN
  rw [hs, on_flip a b c, on_flip a b d, show bi (on c d b) + bi (on c d a) = bi (on c d a) + bi (on c d b) by omega, show bi (on c d b && decide (b = c ∨ b = d)) + bi (on c d a && decide (a = c ∨ a = d)) = bi (on c d a && decide (a = c ∨ a = d)) + bi (on c d b && decide (b = c ∨ b = d)) by omega]
  simp only [e1]
theorem cls_swap (a b c d : Pt) : clsP c d a b = clsP a b c d := by
  unfold clsP
  rw [show (mayP c && mayP d && mayP a && mayP b) = (mayP a && mayP b && mayP c && mayP d) by cases mayP a <;> cases mayP b <;> cases mayP c <;> cases mayP d <;> rfl]
  split
  · rfl
  · by_cases h : a = b ∨ c = d
    · rw [if_pos h, if_pos h.symm]
    · rw [if_neg h, if_neg (fun k => h k.symm), class_eq (fun e => h (.inr e)) (fun e => h (.inl e)), class_eq (fun e => h (.inl e)) (fun e => h (.inr e)), refF_swap (fun e => h (.inl e)) (fun e => h (.inr e))]
theorem cls_flip (a b c d : Pt) : clsP b a c d = clsP a b c d := by
  unfold clsP
  rw [show (mayP b && mayP a && mayP c && mayP d) = (mayP a && mayP b && mayP c && mayP d) by cases mayP a <;> cases mayP b <;> cases mayP c <;> cases mayP d <;> rfl]
  split
  · rfl
  · by_cases h : a = b ∨ c = d
    · rw [if_pos h, if_pos (h.imp Eq.symm id)]
    · rw [if_neg h, if_neg (fun k => h (k.imp Eq.symm id)), class_eq (fun e => h (.inl e.symm)) (fun e => h (.inr e)), class_eq (fun e => h (.inl e)) (fun e => h (.inr e)), refF_flip]

theorem atX_comm (a b : Pt) (c : Int) : atX b a c = atX a b c := by
  unfold atX
  by_cases h1 : b.1 < a.1
  · rw [if_pos h1, if_neg (by omega)]
  · rw [if_neg h1]
    by_cases h2 : a.1 < b.1
    · rw [if_pos h2]
    · rw [if_neg h2]
      unfold atF
      rw [if_pos (.inr (by omega)), if_pos (.inr (by omega))]
theorem atY_comm (a b : Pt) (c : Int) : atY b a c = atY a b c := atX_comm _ _ _
/-- The points of the cuts. -/
theorem mem_cuts {a b : Pt} {xs ys : List Int} {p : Pt} : (∃ k ∈ cutsF a b xs ys, k.1 = p) ↔ (∃ c ∈ xs, (atX a b c).2 = true ∧ p = (c, (atX a b c).1)) ∨ (∃ c ∈ ys, (atY a b c).2 = true ∧ p = ((atY a b c).1, c)) := by
  unfold cutsF
  constructor
  · rintro ⟨k, hk, rfl⟩
    rcases List.mem_append.1 hk with h | h
    · obtain ⟨c, hc, he⟩ := List.mem_filterMap.1 h
      unfold cutX at he
      split at he
      · rename_i h1; injection he with he; subst he; exact .inl ⟨c, hc, h1, rfl⟩
      · cases he
    · obtain ⟨c, hc, he⟩ := List.mem_filterMap.1 h
      unfold cutY at he
      split at he
      · rename_i h1; injection he with he; subst he; exact .inr ⟨c, hc, h1, rfl⟩
      · cases he
  · rintro (⟨c, hc, h1, rfl⟩ | ⟨c, hc, h1, rfl⟩)
    · exact ⟨_, List.mem_append_left _ (List.mem_filterMap.2 ⟨c, hc, by unfold cutX; rw [if_pos h1]⟩), rfl⟩
    · exact ⟨_, List.mem_append_right _ (List.mem_filterMap.2 ⟨c, hc, by unfold cutY; rw [if_pos h1]⟩), rfl⟩
theorem bef_flip {a b p q : Pt} (h : bef a b p q) : bef b a q p := ⟨leP_flip h.1, h.2.symm⟩
theorem IsCuts.rev {a b : Pt} {xs ys : List Int} {l : List Pt} (h : IsCuts a b xs ys l) : IsCuts b a xs ys l.reverse := by
  refine ⟨List.pairwise_reverse.2 (h.1.imp bef_flip), fun p => ?_⟩
  rw [List.mem_reverse, h.2 p, mem_cuts, mem_cuts]
  simp only [atX_comm a b, atY_comm a b]
  constructor
  · rintro ⟨h1, h2, h3⟩; exact ⟨h2, h1, h3⟩
  · rintro ⟨h1, h2, h3⟩; exact ⟨h2, h1, h3⟩
/-- There is a list of the cuts. -/
theorem cuts_list (a b : Pt) (xs ys : List Int) : ∃ L, IsCuts a b xs ys L ∧ L.length ≤ xs.length + ys.length := by
  have hl : ∀ c ∈ cutsF a b xs ys, okC c := fun c hc => (cuts_good hc).1
  obtain ⟨d, hd⟩ : ∃ d : Array CutB, d.toList.map (·.1) = cutsF a b xs ys := toB _ hl
  obtain ⟨d2, h1, h2⟩ : ∃ d2, PermIn 0 d.size d d2 ∧ SrtB 0 d.size d2 := ⟨_, insertionSort_holds swoB d 0 d.size (Nat.zero_le _) (Nat.le_refl _)⟩
  have hp := perm_of h1 rfl
  rw [hd] at hp
  rw [← h1.1] at h2
  refine ⟨_, isCuts_of hp (byFrac_of h2), ?_⟩
  have e1 := dedF_len b (d2.toList.map (·.1)) a
  have e2 := hp.length_eq
  have e3 := cutsF_len a b xs ys
  omega
theorem Cuts_is {a b : Pt} {xs ys : List Int} {L : List Pt} (h : IsCuts a b xs ys L) (v u : Value) (w : World) (hx : IntsAt w v xs) (hy : IntsAt w u ys) (hlx : xs.length ≤ 20) (hly : ys.length ≤ 20) :
    Calls Try.prog 17 #[pp a, pp b, v, u] w (fun e w' => ∃ o, e = .returned o ∧ PtsAt w' o L ∧ Grows w w') := by
  refine (Cuts_any a b v u xs ys w hx hy hlx hly).mono ?_
  rintro e w' ⟨o, l, rfl, hl, hn, ho, hg⟩
  obtain rfl := h.uniq hl
  exact ⟨o, rfl, own_pts ho rfl (by omega), hg⟩
theorem rev_getD {L : List Pt} {j : Nat} (h : j < L.length) : L.reverse.getD (L.length - 1 - j) (0, 0) = L.getD j (0, 0) := by
  rw [List.getD_eq_getElem?_getD, List.getD_eq_getElem?_getD, List.getElem?_reverse (by omega), show L.length - 1 - (L.length - 1 - j) = j by omega]
end Go.Proofs.Ytlgplhanhnjeiaa
