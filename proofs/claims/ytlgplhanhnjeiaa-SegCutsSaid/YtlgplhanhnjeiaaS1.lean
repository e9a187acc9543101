/-
  Layer 2: how two segments lie: the program's class is the document's (plain geometry).
-/
import Derived.Test.YtlgplhanhnjeiaaE3n
namespace Go.Proofs.Ytlgplhanhnjeiaa

/-- u * s' = v * s, u * t' = v * t, u not 0: what lies between by s does by s'. -/
theorem betw_of {u v s t s' t' : Int} (hu : u ≠ 0) (h1 : u * s' = v * s) (h2 : u * t' = v * t) (h : (0 ≤ s ∧ s ≤ t) ∨ (t ≤ s ∧ s ≤ 0)) : (0 ≤ s' ∧ s' ≤ t') ∨ (t' ≤ s' ∧ s' ≤ 0) := by
  have key : ∀ u v : Int, 0 < u → u * s' = v * s → u * t' = v * t → (0 ≤ s' ∧ s' ≤ t') ∨ (t' ≤ s' ∧ s' ≤ 0) := by
    intro u v hu h1 h2
    have hm : (0 ≤ v * s ∧ v * s ≤ v * t) ∨ (v * t ≤ v * s ∧ v * s ≤ 0) := by
      rcases Int.le_total 0 v with hv | hv <;> rcases h with ⟨a, b⟩ | ⟨a, b⟩
      · exact .inl ⟨Int.mul_nonneg hv a, Int.mul_le_mul_of_nonneg_left b hv⟩
      · exact .inr ⟨Int.mul_le_mul_of_nonneg_left a hv, Int.mul_nonpos_of_nonneg_of_nonpos hv b⟩
      · exact .inr ⟨Int.mul_le_mul_of_nonpos_left hv b, Int.mul_nonpos_of_nonpos_of_nonneg hv a⟩
      · exact .inl ⟨Int.mul_nonneg_of_nonpos_of_nonpos hv b, Int.mul_le_mul_of_nonpos_left hv a⟩
    rw [← h1, ← h2] at hm
    rcases hm with ⟨a, b⟩ | ⟨a, b⟩
    · exact .inl ⟨Int.le_of_mul_le_mul_left (by rw [Int.mul_zero]; exact a) hu, Int.le_of_mul_le_mul_left b hu⟩
    · exact .inr ⟨Int.le_of_mul_le_mul_left a hu, Int.le_of_mul_le_mul_left (by rw [Int.mul_zero]; exact b) hu⟩
  rcases Int.lt_or_gt_of_ne hu with h0 | h0
  · exact key (-u) (-v) (by omega) (by rw [Int.neg_mul, Int.neg_mul, h1]) (by rw [Int.neg_mul, Int.neg_mul, h2])
  · exact key u v h0 h1 h2
theorem zero_of {u x : Int} (hu : u ≠ 0) (h : u * x = 0) : x = 0 := (Int.mul_eq_zero.1 h).resolve_left hu
theorem cr_rot (ax ay bx b_y cx cy : Int) : crossI bx b_y cx cy ax ay = crossI ax ay bx b_y cx cy := by unfold crossI; grind
theorem cr_flip (ax ay bx b_y cx cy : Int) : crossI ax ay cx cy bx b_y = - crossI ax ay bx b_y cx cy := by unfold crossI; grind
/-- Three with two of a line's points are on one line. -/
theorem col {px py qx qy rx ry sx sy : Int} (h1 : crossI px py qx qy rx ry = 0) (h2 : crossI px py qx qy sx sy = 0) (hne : ¬ (px = qx ∧ py = qy)) : crossI px py rx ry sx sy = 0 := by
  unfold crossI at *
  by_cases hx : qx - px = 0
  · have hy : qy - py ≠ 0 := by omega
    refine zero_of hy ?_
    grind
  · refine zero_of hx ?_
    grind
theorem sign_eq {p q x y : Int} (hp : 0 < p) (hq : 0 < q) (h : p * x = q * y) : signI x = signI y := by
  have hx : (0 < x ↔ 0 < p * x) ∧ (x < 0 ↔ p * x < 0) := by
    refine ⟨⟨fun h => Int.mul_pos hp h, fun h => ?_⟩, ⟨fun h => Int.mul_neg_of_pos_of_neg hp h, fun h => ?_⟩⟩
    · rcases Int.lt_trichotomy 0 x with h0 | h0 | h0
      · exact h0
      · subst h0; simp at h
      · have := Int.mul_neg_of_pos_of_neg hp h0; omega
    · rcases Int.lt_trichotomy 0 x with h0 | h0 | h0
      · have := Int.mul_pos hp h0; omega
      · subst h0; simp at h
      · exact h0
  have hy : (0 < y ↔ 0 < q * y) ∧ (y < 0 ↔ q * y < 0) := by
    refine ⟨⟨fun h => Int.mul_pos hq h, fun h => ?_⟩, ⟨fun h => Int.mul_neg_of_pos_of_neg hq h, fun h => ?_⟩⟩
    · rcases Int.lt_trichotomy 0 y with h0 | h0 | h0
      · exact h0
      · subst h0; simp at h
      · have := Int.mul_neg_of_pos_of_neg hq h0; omega
    · rcases Int.lt_trichotomy 0 y with h0 | h0 | h0
      · have := Int.mul_pos hq h0; omega
      · subst h0; simp at h
      · exact h0
  unfold signI
  rw [← h] at hy
  by_cases c1 : 0 < x
  · rw [if_pos c1, if_pos (hy.1.2 (hx.1.1 c1))]
  · rw [if_neg c1, if_neg (fun h => c1 (hx.1.2 (hy.1.1 h)))]
    by_cases c2 : x < 0
    · rw [if_pos c2, if_pos (hy.2.2 (hx.2.1 c2))]
    · rw [if_neg c2, if_neg (fun h => c2 (hx.2.2 (hy.2.1 h)))]
theorem sign_eq' {p q x y : Int} (hpq : (0 < p ∧ 0 < q) ∨ (p < 0 ∧ q < 0)) (h : p * x = q * y) : signI x = signI y := by
  rcases hpq with ⟨h1, h2⟩ | ⟨h1, h2⟩
  · exact sign_eq h1 h2 h
  · exact sign_eq (p := -p) (q := -q) (by omega) (by omega) (by rw [Int.neg_mul, Int.neg_mul, h])
/-- A line's point that isn't on the segment sees both ends on one side. -/
theorem same_side {ax ay bx b_y cx cy dx dy : Int} (hab : ¬ (ax = bx ∧ ay = b_y)) (hc : crossI ax ay bx b_y cx cy = 0) (hon : onB ax ay bx b_y cx cy = false) : signI (crossI cx cy dx dy ax ay) = signI (crossI cx cy dx dy bx b_y) := by
  have hno : ¬ (((0 ≤ cx - ax ∧ cx - ax ≤ bx - ax) ∨ (bx - ax ≤ cx - ax ∧ cx - ax ≤ 0)) ∧ ((0 ≤ cy - ay ∧ cy - ay ≤ b_y - ay) ∨ (b_y - ay ≤ cy - ay ∧ cy - ay ≤ 0))) := by
    intro h
    unfold onB at hon
    rw [if_neg hab] at hon
    simp only [hc, decide_true, Bool.true_and, Bool.and_eq_false_iff, betwB, decide_eq_false_iff_not] at hon
    omega
  unfold crossI at hc
  by_cases hx : bx - ax = 0
  · have hy : b_y - ay ≠ 0 := by omega
    have hcx : cx - ax = 0 := zero_of hy (by grind)
    refine sign_eq' (p := b_y - cy) (q := ay - cy) ?_ ?_
    · omega
    · unfold crossI
      have e1 : ax = cx := by omega
      have e2 : bx = cx := by omega
      subst e1
      subst e2
      grind
  · have hb : ¬ ((0 ≤ cx - ax ∧ cx - ax ≤ bx - ax) ∨ (bx - ax ≤ cx - ax ∧ cx - ax ≤ 0)) := fun h => hno ⟨h, betw_of (u := bx - ax) (v := b_y - ay) hx (show (bx - ax) * (cy - ay) = (b_y - ay) * (cx - ax) by omega) (by rw [Int.mul_comm]) h⟩
    refine sign_eq' (p := bx - cx) (q := ax - cx) ?_ ?_
    · omega
    · unfold crossI
      grind

/-- How two segments of one line lie, by one number each. -/
def alongT (a b c d : Int) : Int :=
  let a1 := min a b; let b1 := max a b; let c1 := min c d; let d1 := max c d
  if a1 = c1 ∧ b1 = d1 then 5 else if max a1 c1 = min b1 d1 then 1 else if min b1 d1 < max a1 c1 then 0 else 4
def bi (b : Bool) : Int := if b then 1 else 0
/-- The document's class: of the points that lie on the other segment. -/
def refN (same n1 n2 e1 e2 m1 m2 : Bool) (w x y z : Int) : Int :=
  if same then 5 else
  if 1 < bi n1 + bi n2 + (bi m1 + bi m2) - (bi (n1 && e1) + bi (n2 && e2)) then 4 else
  if bi n1 + bi n2 + (bi m1 + bi m2) - (bi (n1 && e1) + bi (n2 && e2)) = 1 then (if bi (n1 && e1) + bi (n2 && e2) = 1 then 1 else 2) else
  if w ≠ x ∧ y ≠ z then 3 else 0
set_option maxHeartbeats 8000000 in
theorem line4 (a b c d : Int) (hab : a ≠ b) (hcd : c ≠ d) (n1 n2 m1 m2 e1 e2 same : Bool) (h1 : n1 = true ↔ (c ≤ a ∧ a ≤ d) ∨ (d ≤ a ∧ a ≤ c)) (h2 : n2 = true ↔ (c ≤ b ∧ b ≤ d) ∨ (d ≤ b ∧ b ≤ c))
    (h3 : m1 = true ↔ (a ≤ c ∧ c ≤ b) ∨ (b ≤ c ∧ c ≤ a)) (h4 : m2 = true ↔ (a ≤ d ∧ d ≤ b) ∨ (b ≤ d ∧ d ≤ a)) (h5 : e1 = true ↔ a = c ∨ a = d) (h6 : e2 = true ↔ b = c ∨ b = d) (h7 : same = true ↔ (a = c ∧ b = d) ∨ (a = d ∧ b = c)) :
    alongT a b c d = refN same n1 n2 e1 e2 m1 m2 0 0 0 0 := by
  rcases Int.lt_or_gt_of_ne hab with o1 | o1 <;> rcases Int.lt_or_gt_of_ne hcd with o2 | o2 <;>
    rcases Int.lt_trichotomy a c with p1 | p1 | p1 <;> rcases Int.lt_trichotomy b d with p2 | p2 | p2 <;> (try (exfalso; omega)) <;>
    rcases Int.lt_trichotomy a d with p3 | p3 | p3 <;> (try (exfalso; omega)) <;> rcases Int.lt_trichotomy b c with p4 | p4 | p4 <;> (try (exfalso; omega)) <;>
    (cases n1 <;> first | (exfalso; exact absurd (h1.1 rfl) (by omega)) | (exfalso; exact absurd (h1.2 (by omega)) (by decide)) | skip) <;> (cases n2 <;> first | (exfalso; exact absurd (h2.1 rfl) (by omega)) | (exfalso; exact absurd (h2.2 (by omega)) (by decide)) | skip) <;> (cases m1 <;> first | (exfalso; exact absurd (h3.1 rfl) (by omega)) | (exfalso; exact absurd (h3.2 (by omega)) (by decide)) | skip) <;> (cases m2 <;> first | (exfalso; exact absurd (h4.1 rfl) (by omega)) | (exfalso; exact absurd (h4.2 (by omega)) (by decide)) | skip) <;> (cases e1 <;> first | (exfalso; exact absurd (h5.1 rfl) (by omega)) | (exfalso; exact absurd (h5.2 (by omega)) (by decide)) | skip) <;> (cases e2 <;> first | (exfalso; exact absurd (h6.1 rfl) (by omega)) | (exfalso; exact absurd (h6.2 (by omega)) (by decide)) | skip) <;> (cases same <;> first | (exfalso; exact absurd (h7.1 rfl) (by omega)) | (exfalso; exact absurd (h7.2 (by omega)) (by decide)) | skip) <;>
    (clear h1 h2 h3 h4 h5 h6 h7; unfold alongT; simp only; first
      | exact (if_pos (by omega)).trans rfl
      | exact ((if_neg (by omega)).trans (if_pos (by omega))).trans rfl
      | exact ((if_neg (by omega)).trans ((if_neg (by omega)).trans (if_pos (by omega)))).trans rfl
      | exact ((if_neg (by omega)).trans ((if_neg (by omega)).trans (if_neg (by omega)))).trans rfl)
abbrev Pt := Int × Int
def cr (a b c : Pt) : Int := crossI a.1 a.2 b.1 b.2 c.1 c.2
def on (a b p : Pt) : Bool := onB a.1 a.2 b.1 b.2 p.1 p.2
def le2 (p q : Pt) : Bool := lessB p.1 p.2 q.1 q.2
def lo (p q : Pt) : Pt := if le2 q p = true then q else p
def hi (p q : Pt) : Pt := if le2 q p = true then p else q
def alongG (a1 b1 c1 d1 : Pt) : Int :=
  if a1 = c1 ∧ b1 = d1 then 5 else
  if (if le2 a1 c1 = true then c1 else a1) = (if le2 d1 b1 = true then d1 else b1) then 1 else
  if le2 (if le2 d1 b1 = true then d1 else b1) (if le2 a1 c1 = true then c1 else a1) = true then 0 else 4
/-- How two segments of one line lie, as the program has it. -/
def alongF (a b c d : Pt) : Int := alongG (lo a b) (hi a b) (lo c d) (hi c d)
/-- The program's class (of points that may be, unlike ends). -/
def classF (a b c d : Pt) : Int :=
  if cr a b c = 0 ∧ cr a b d = 0 then alongF a b c d else
  if a = c ∨ a = d ∨ b = c ∨ b = d then 1 else
  if on a b c = true ∨ on a b d = true ∨ on c d a = true ∨ on c d b = true then 2 else
  if signI (cr a b c) * signI (cr a b d) < 0 ∧ signI (cr c d a) * signI (cr c d b) < 0 then 3 else 0
/-- The document's. -/
def refF (a b c d : Pt) : Int :=
  refN (decide ((a = c ∧ b = d) ∨ (a = d ∧ b = c))) (on c d a) (on c d b) (decide (a = c ∨ a = d)) (decide (b = c ∨ b = d)) (on a b c) (on a b d) (signI (cr a b c)) (signI (cr a b d)) (signI (cr c d a)) (signI (cr c d b))

/-- A number that tells a line's points, and their order. -/
structure Key (k : Pt → Int) (S : Pt → Prop) : Prop where
  eq : ∀ p q, S p → S q → (p = q ↔ k p = k q)
  lt : ∀ p q, S p → S q → (le2 p q = true ↔ k p < k q)
theorem along_key {k : Pt → Int} {S : Pt → Prop} (K : Key k S) {a b c d : Pt} (ha : S a) (hb : S b) (hc : S c) (hd : S d) : alongF a b c d = alongT (k a) (k b) (k c) (k d) := by
  have key : ∀ a1 b1 c1 d1 : Pt, S a1 → S b1 → S c1 → S d1 → k a1 = min (k a) (k b) → k b1 = max (k a) (k b) → k c1 = min (k c) (k d) → k d1 = max (k c) (k d) → alongG a1 b1 c1 d1 = alongT (k a) (k b) (k c) (k d) := by
    intro a1 b1 c1 d1 h1 h2 h3 h4 e1 e2 e3 e4
    unfold alongG alongT
    simp only
    rw [← e1, ← e2, ← e3, ← e4]
    by_cases q1 : a1 = c1 ∧ b1 = d1
    · rw [if_pos q1, if_pos ⟨(K.eq _ _ h1 h3).1 q1.1, (K.eq _ _ h2 h4).1 q1.2⟩]
    · rw [if_neg q1, if_neg (show ¬ (k a1 = k c1 ∧ k b1 = k d1) from fun h => q1 ⟨(K.eq _ _ h1 h3).2 h.1, (K.eq _ _ h2 h4).2 h.2⟩)]
      obtain ⟨f, hf, hfs, hfk⟩ : ∃ f, (if le2 a1 c1 = true then c1 else a1) = f ∧ S f ∧ k f = max (k a1) (k c1) := by
        by_cases q : le2 a1 c1 = true
        · exact ⟨c1, if_pos q, h3, by have := (K.lt _ _ h1 h3).1 q; omega⟩
        · exact ⟨a1, if_neg q, h1, by have : ¬ k a1 < k c1 := fun h => q ((K.lt _ _ h1 h3).2 h); omega⟩
      obtain ⟨t, ht, hts, htk⟩ : ∃ t, (if le2 d1 b1 = true then d1 else b1) = t ∧ S t ∧ k t = min (k b1) (k d1) := by
        by_cases q : le2 d1 b1 = true
        · exact ⟨d1, if_pos q, h4, by have := (K.lt _ _ h4 h2).1 q; omega⟩
        · exact ⟨b1, if_neg q, h2, by have : ¬ k d1 < k b1 := fun h => q ((K.lt _ _ h4 h2).2 h); omega⟩
      rw [hf, ht, ← hfk, ← htk]
      by_cases q2 : f = t
      · rw [if_pos q2, if_pos ((K.eq _ _ hfs hts).1 q2)]
      · rw [if_neg q2, if_neg (show ¬ (k f = k t) from fun h => q2 ((K.eq _ _ hfs hts).2 h))]
        by_cases q3 : le2 t f = true
        · rw [if_pos q3, if_pos ((K.lt _ _ hts hfs).1 q3)]
        · rw [if_neg q3, if_neg (show ¬ (k t < k f) from fun h => q3 ((K.lt _ _ hts hfs).2 h))]
  have two : ∀ p q : Pt, S p → S q → S (lo p q) ∧ S (hi p q) ∧ k (lo p q) = min (k p) (k q) ∧ k (hi p q) = max (k p) (k q) := by
    intro p q hp hq
    unfold lo hi
    by_cases h : le2 q p = true
    · have := (K.lt _ _ hq hp).1 h
      rw [if_pos h, if_pos h]
      exact ⟨hq, hp, by omega, by omega⟩
    · have : ¬ (k q < k p) := fun h' => h ((K.lt _ _ hq hp).2 h')
      rw [if_neg h, if_neg h]
      exact ⟨hp, hq, by omega, by omega⟩
  obtain ⟨s1, s2, e1, e2⟩ := two a b ha hb
  obtain ⟨s3, s4, e3, e4⟩ := two c d hc hd
  exact key _ _ _ _ s1 s2 s3 s4 e1 e2 e3 e4
/-- On one line a number tells all. -/
theorem flat_eq {k : Pt → Int} {S : Pt → Prop} (K : Key k S) {a b c d : Pt} (ha : S a) (hb : S b) (hc : S c) (hd : S d) (hab : a ≠ b) (hcd : c ≠ d)
    (hon : ∀ p q r, S p → S q → S r → p ≠ q → (on p q r = true ↔ (k p ≤ k r ∧ k r ≤ k q) ∨ (k q ≤ k r ∧ k r ≤ k p))) (w x y z : Int) (hw : w = x) : 
    alongF a b c d = refN (decide ((a = c ∧ b = d) ∨ (a = d ∧ b = c))) (on c d a) (on c d b) (decide (a = c ∨ a = d)) (decide (b = c ∨ b = d)) (on a b c) (on a b d) w x y z := by
  have h0 : refN (decide ((a = c ∧ b = d) ∨ (a = d ∧ b = c))) (on c d a) (on c d b) (decide (a = c ∨ a = d)) (decide (b = c ∨ b = d)) (on a b c) (on a b d) w x y z = refN (decide ((a = c ∧ b = d) ∨ (a = d ∧ b = c))) (on c d a) (on c d b) (decide (a = c ∨ a = d)) (decide (b = c ∨ b = d)) (on a b c) (on a b d) 0 0 0 0 := by
    unfold refN
    rw [if_neg (show ¬ (w ≠ x ∧ y ≠ z) from fun h => h.1 hw), if_neg (show ¬ ((0 : Int) ≠ 0 ∧ (0 : Int) ≠ 0) from fun h => h.1 rfl)]
  rw [h0, along_key K ha hb hc hd]
  refine line4 (k a) (k b) (k c) (k d) (fun h => hab ((K.eq _ _ ha hb).2 h)) (fun h => hcd ((K.eq _ _ hc hd).2 h)) _ _ _ _ _ _ _ (hon c d a hc hd ha hcd) (hon c d b hc hd hb hcd) (hon a b c ha hb hc hab) (hon a b d ha hb hd hab) ?_ ?_ ?_
  · rw [decide_eq_true_iff, K.eq a c ha hc, K.eq a d ha hd]
  · rw [decide_eq_true_iff, K.eq b c hb hc, K.eq b d hb hd]
  · rw [decide_eq_true_iff, K.eq a c ha hc, K.eq a d ha hd, K.eq b c hb hc, K.eq b d hb hd]
theorem pt_eq (p q : Pt) : p = q ↔ p.1 = q.1 ∧ p.2 = q.2 := Prod.ext_iff
theorem flat_case {a b c d : Pt} (hab : a ≠ b) (hcd : c ≠ d) (h1 : cr a b c = 0) (h2 : cr a b d = 0) : alongF a b c d = refF a b c d := by
  unfold refF
  have hne : ¬ (a.1 = b.1 ∧ a.2 = b.2) := fun h => hab ((pt_eq a b).2 h)
  unfold cr crossI at h1 h2
  by_cases hx : b.1 - a.1 = 0
  · have hy : b.2 - a.2 ≠ 0 := by omega
    have hc : c.1 - a.1 = 0 := zero_of hy (by rw [hx, Int.zero_mul] at h1; omega)
    have hd : d.1 - a.1 = 0 := zero_of hy (by rw [hx, Int.zero_mul] at h2; omega)
    refine flat_eq (k := fun p => p.2) (S := fun p => p.1 = a.1) ⟨fun p q hp hq => ?_, fun p q hp hq => ?_⟩ rfl (by omega) (by omega) (by omega) hab hcd (fun p q r hp hq hr hpq => ?_) _ _ _ _ ?_
    · rw [pt_eq]; omega
    · unfold le2 lessB
      rw [if_pos (by omega), decide_eq_true_iff]
    · have hz : crossI p.1 p.2 q.1 q.2 r.1 r.2 = 0 := by
        unfold crossI
        rw [show q.1 - p.1 = 0 by omega, show r.1 - p.1 = 0 by omega]; simp
      unfold on onB
      rw [if_neg (fun h => hpq ((pt_eq p q).2 h))]
      simp only [hz, decide_true, Bool.true_and, Bool.and_eq_true, betwB, decide_eq_true_eq]
      omega
    · unfold cr crossI; rw [h1, h2]
  · have all : ∀ p : Pt, (p = a ∨ p = b ∨ p = c ∨ p = d) → (b.1 - a.1) * (p.2 - a.2) = (b.2 - a.2) * (p.1 - a.1) := by
      rintro p (rfl | rfl | rfl | rfl)
      · simp
      · rw [Int.mul_comm]
      · omega
      · omega
    have two : ∀ p q : Pt, (b.1 - a.1) * (p.2 - a.2) = (b.2 - a.2) * (p.1 - a.1) → (b.1 - a.1) * (q.2 - a.2) = (b.2 - a.2) * (q.1 - a.1) → (b.1 - a.1) * (q.2 - p.2) = (b.2 - a.2) * (q.1 - p.1) := by
      intro p q hp hq
      grind
    have same : ∀ p q : Pt, (b.1 - a.1) * (p.2 - a.2) = (b.2 - a.2) * (p.1 - a.1) → (b.1 - a.1) * (q.2 - a.2) = (b.2 - a.2) * (q.1 - a.1) → p.1 = q.1 → p.2 = q.2 := by
      intro p q hp hq he
      have := two p q hp hq
      have h0 := zero_of hx (show (b.1 - a.1) * (q.2 - p.2) = 0 by rw [this, show q.1 - p.1 = 0 by omega, Int.mul_zero])
      omega
    refine flat_eq (k := fun p => p.1) (S := fun p => (b.1 - a.1) * (p.2 - a.2) = (b.2 - a.2) * (p.1 - a.1)) ⟨fun p q hp hq => ?_, fun p q hp hq => ?_⟩ (all a (.inl rfl)) (all b (.inr (.inl rfl))) (all c (.inr (.inr (.inl rfl)))) (all d (.inr (.inr (.inr rfl)))) hab hcd (fun p q r hp hq hr hpq => ?_) _ _ _ _ ?_
    · rw [pt_eq]
      exact ⟨fun h => h.1, fun h => ⟨h, same p q hp hq h⟩⟩
    · unfold le2 lessB
      by_cases he : p.1 = q.1
      · rw [if_pos he, decide_eq_true_iff, same p q hp hq he]
        show q.2 < q.2 ↔ p.1 < q.1
        omega
      · rw [if_neg he, decide_eq_true_iff]
    · have e1 := two p q hp hq
      have e2 := two p r hp hr
      have hz : crossI p.1 p.2 q.1 q.2 r.1 r.2 = 0 := by
        unfold crossI
        exact zero_of hx (by grind)
      unfold on onB
      rw [if_neg (fun h => hpq ((pt_eq p q).2 h))]
      simp only [hz, decide_true, Bool.true_and, Bool.and_eq_true, betwB, decide_eq_true_eq]
      constructor
      · rintro ⟨h1, -⟩; omega
      · intro h
        have := betw_of hx e2 e1 (by omega)
        exact ⟨by omega, by omega⟩
    · unfold cr crossI; rw [h1, h2]
theorem cr_rot2 (a b c : Pt) : cr b c a = cr a b c := cr_rot _ _ _ _ _ _
theorem cr_flip2 (a b c : Pt) : cr a c b = - cr a b c := cr_flip _ _ _ _ _ _
theorem col2 {p q r s : Pt} (h1 : cr p q r = 0) (h2 : cr p q s = 0) (hne : p ≠ q) : cr p r s = 0 := col h1 h2 (fun h => hne ((pt_eq p q).2 h))
theorem on_cr {p q r : Pt} (h : on p q r = true) (hne : p ≠ q) : cr p q r = 0 := by
  unfold on onB at h
  rw [if_neg (fun h => hne ((pt_eq p q).2 h))] at h
  simp only [Bool.and_eq_true, decide_eq_true_eq] at h
  exact h.1.1
theorem on_first (p q : Pt) (hne : p ≠ q) : on p q p = true := by
  unfold on onB
  rw [if_neg (fun h => hne ((pt_eq p q).2 h))]
  have : crossI p.1 p.2 q.1 q.2 p.1 p.2 = 0 := by unfold crossI; simp
  simp only [this, decide_true, Bool.true_and, Bool.and_eq_true, betwB, decide_eq_true_eq]
  omega
theorem on_last (p q : Pt) (hne : p ≠ q) : on p q q = true := by
  unfold on onB
  rw [if_neg (fun h => hne ((pt_eq p q).2 h))]
  have : crossI p.1 p.2 q.1 q.2 q.1 q.2 = 0 := by unfold crossI; rw [Int.mul_comm]; omega
  simp only [this, decide_true, Bool.true_and, Bool.and_eq_true, betwB, decide_eq_true_eq]
  omega
theorem cr_aa (p q : Pt) : cr p q p = 0 := by unfold cr crossI; simp
theorem cr_bb (p q : Pt) : cr p q q = 0 := by unfold cr crossI; rw [Int.mul_comm]; omega
theorem side2 {a b c d : Pt} (hab : a ≠ b) (hc : cr a b c = 0) (hon : on a b c = false) : signI (cr c d a) = signI (cr c d b) := same_side (fun h => hab ((pt_eq a b).2 h)) hc hon
theorem sign_neg (n : Int) : signI (-n) = - signI n := by unfold signI; split <;> (try split) <;> (try split) <;> (try split) <;> omega
theorem sign0 {n : Int} : signI n = 0 ↔ n = 0 := by unfold signI; split <;> (try split) <;> omega
theorem sign3 (n : Int) : signI n = 1 ∨ signI n = 0 ∨ signI n = -1 := by unfold signI; split <;> (try split) <;> omega
theorem off_of {p q r : Pt} (hne : p ≠ q) (h : cr p q r ≠ 0) : on p q r = false := by
  rw [Bool.eq_false_iff]; exact fun ho => h (on_cr ho hne)
theorem cr_swap2 (a b c : Pt) : cr b a c = - cr a b c := by unfold cr crossI; grind
theorem signs_core {C D A B : Int} (h1 : C = 0 → signI A = signI B) (h2 : D = 0 → signI A = signI B) (h3 : A = 0 → signI C = signI D) (h4 : B = 0 → signI C = signI D) :
    (signI C * signI D < 0 ∧ signI A * signI B < 0) ↔ (signI C ≠ signI D ∧ signI A ≠ signI B) := by
  rw [← sign0] at h1 h2 h3 h4
  generalize hc : signI C = sc at *
  generalize hd : signI D = sd at *
  generalize ha : signI A = sa at *
  generalize hb : signI B = sb at *
  have c3 := sign3 C
  have d3 := sign3 D
  have a3 := sign3 A
  have b3 := sign3 B
  rw [hc] at c3
  rw [hd] at d3
  rw [ha] at a3
  rw [hb] at b3
  clear hc hd ha hb
  rcases c3 with rfl | rfl | rfl <;> rcases d3 with rfl | rfl | rfl <;> rcases a3 with rfl | rfl | rfl <;> rcases b3 with rfl | rfl | rfl <;> omega
theorem refN_one {same n1 n2 e1 e2 m1 m2 : Bool} {w x y z : Int} (hs : same = false) (h : bi n1 + bi n2 + (bi m1 + bi m2) - (bi (n1 && e1) + bi (n2 && e2)) = 1) : refN same n1 n2 e1 e2 m1 m2 w x y z = if bi (n1 && e1) + bi (n2 && e2) = 1 then 1 else 2 := by
  unfold refN
  rw [hs, h]
  simp
theorem class_eq {a b c d : Pt} (hab : a ≠ b) (hcd : c ≠ d) : classF a b c d = refF a b c d := by
  unfold classF
  by_cases h0 : cr a b c = 0 ∧ cr a b d = 0
  · rw [if_pos h0]
    exact flat_case hab hcd h0.1 h0.2
  · rw [if_neg h0]
    have r1 := cr_rot2 a b c
    have r2 := cr_rot2 a b d
    have r3 := cr_rot2 c d a
    have r4 := cr_rot2 c d b
    have r5 := cr_rot2 c a b
    have r6 := cr_rot2 d a b
    have s1 := cr_swap2 c d a
    have s2 := cr_swap2 c d b
    have f1 := cr_flip2 a b c
    have f2 := cr_flip2 a b d
    have f3 := cr_flip2 a c d
    have f4 := cr_flip2 b c d
    have f5 := cr_flip2 a d b
    have f6 := cr_flip2 b c a
    have f7 := cr_flip2 b d a
    have r7 := cr_rot2 a c d
    have r8 := cr_rot2 b c d
    have hA : ¬ (cr c d a = 0 ∧ cr c d b = 0) := fun h => by
      have e1 : cr c a b = 0 := col2 h.1 h.2 hcd
      have e2 : cr d a b = 0 := col2 (by omega) (by omega) hcd.symm
      exact h0 ⟨by omega, by omega⟩
    by_cases hs : a = c ∨ a = d ∨ b = c ∨ b = d
    · rw [if_pos hs]
      symm
      have hsame : decide ((a = c ∧ b = d) ∨ (a = d ∧ b = c)) = false := by
        rw [decide_eq_false_iff_not]
        rintro (⟨rfl, rfl⟩ | ⟨rfl, rfl⟩)
        · exact h0 ⟨cr_aa _ _, cr_bb _ _⟩
        · exact h0 ⟨cr_bb _ _, cr_aa _ _⟩
      unfold refF
      rcases hs with rfl | rfl | rfl | rfl
      · have z := cr_aa a b
        have o1 := on_first a d hcd
        have o2 : on a d b = false := off_of hcd (by omega)
        have o3 := on_first a b hab
        have o4 : on a b d = false := off_of hab (by omega)
        rw [o1, o2, o3, o4, refN_one hsame] <;> simp [bi]
      · have z := cr_aa a b
        have o1 := on_last c a hcd
        have o2 : on c a b = false := off_of hcd (by omega)
        have o3 := on_first a b hab
        have o4 : on a b c = false := off_of hab (by omega)
        rw [o1, o2, o3, o4, refN_one hsame] <;> simp [bi]
      · have z := cr_bb a b
        have o1 := on_first b d hcd
        have o2 : on b d a = false := off_of hcd (by omega)
        have o3 := on_last a b hab
        have o4 : on a b d = false := off_of hab (by omega)
        rw [o1, o2, o3, o4, refN_one hsame] <;> simp [bi]
      · have z := cr_bb a b
        have o1 := on_last c b hcd
        have o2 : on c b a = false := off_of hcd (by omega)
        have o3 := on_last a b hab
        have o4 : on a b c = false := off_of hab (by omega)
        rw [o1, o2, o3, o4, refN_one hsame] <;> simp [bi]
    · rw [if_neg hs]
      have ac : a ≠ c := fun h => hs (.inl h)
      have ad : a ≠ d := fun h => hs (.inr (.inl h))
      have bc : b ≠ c := fun h => hs (.inr (.inr (.inl h)))
      have bd : b ≠ d := fun h => hs (.inr (.inr (.inr h)))
      have hsame : decide ((a = c ∧ b = d) ∨ (a = d ∧ b = c)) = false := by
        rw [decide_eq_false_iff_not]; exact fun h => h.elim (fun h => ac h.1) (fun h => ad h.1)
      have he1 : decide (a = c ∨ a = d) = false := by rw [decide_eq_false_iff_not]; exact fun h => h.elim ac ad
      have he2 : decide (b = c ∨ b = d) = false := by rw [decide_eq_false_iff_not]; exact fun h => h.elim bc bd
      unfold refF
      rw [he1, he2]
      have x1 : ¬ (on c d a = true ∧ on c d b = true) := fun h => hA ⟨on_cr h.1 hcd, on_cr h.2 hcd⟩
      have x2 : ¬ (on a b c = true ∧ on a b d = true) := fun h => h0 ⟨on_cr h.1 hab, on_cr h.2 hab⟩
      have x3 : ¬ (on c d a = true ∧ on a b c = true) := fun h => by
        have u := on_cr h.1 hcd
        have v := on_cr h.2 hab
        have := col2 (p := a) (q := c) (r := d) (s := b) (by omega) (by omega) ac
        exact h0 ⟨v, by omega⟩
      have x4 : ¬ (on c d a = true ∧ on a b d = true) := fun h => by
        have u := on_cr h.1 hcd
        have v := on_cr h.2 hab
        have := col2 (p := a) (q := d) (r := c) (s := b) (by omega) (by omega) ad
        exact h0 ⟨by omega, v⟩
      have x5 : ¬ (on c d b = true ∧ on a b c = true) := fun h => by
        have u := on_cr h.1 hcd
        have v := on_cr h.2 hab
        have := col2 (p := b) (q := c) (r := d) (s := a) (by omega) (by omega) bc
        exact h0 ⟨v, by omega⟩
      have x6 : ¬ (on c d b = true ∧ on a b d = true) := fun h => by
        have u := on_cr h.1 hcd
        have v := on_cr h.2 hab
        have := col2 (p := b) (q := d) (r := c) (s := a) (by omega) (by omega) bd
        exact h0 ⟨by omega, v⟩
      by_cases ho : on a b c = true ∨ on a b d = true ∨ on c d a = true ∨ on c d b = true
      · rw [if_pos ho]
        symm
        generalize on a b c = m1 at *
        generalize on a b d = m2 at *
        generalize on c d a = n1 at *
        generalize on c d b = n2 at *
        rw [refN_one hsame]
        · simp [bi]
        · cases m1 <;> cases m2 <;> cases n1 <;> cases n2 <;> simp [bi] at *
      · rw [if_neg ho]
        have y1 : on a b c = false := by rw [Bool.eq_false_iff]; exact fun h => ho (.inl h)
        have y2 : on a b d = false := by rw [Bool.eq_false_iff]; exact fun h => ho (.inr (.inl h))
        have y3 : on c d a = false := by rw [Bool.eq_false_iff]; exact fun h => ho (.inr (.inr (.inl h)))
        have y4 : on c d b = false := by rw [Bool.eq_false_iff]; exact fun h => ho (.inr (.inr (.inr h)))
        have hk := signs_core (C := cr a b c) (D := cr a b d) (A := cr c d a) (B := cr c d b) (fun h => side2 hab h y1)
          (fun h => by
            have := side2 (d := c) hab h y2
            rw [cr_swap2 c d a, cr_swap2 c d b, sign_neg, sign_neg] at this
            omega)
          (fun h => side2 hcd h y3)
          (fun h => by
            have := side2 (d := a) hcd h y4
            rw [cr_swap2 a b c, cr_swap2 a b d, sign_neg, sign_neg] at this
            omega)
        rw [y1, y2, y3, y4, hsame]
        unfold refN
        simp only [bi, Bool.false_and, Bool.false_eq_true, if_false]
        by_cases hp : signI (cr a b c) * signI (cr a b d) < 0 ∧ signI (cr c d a) * signI (cr c d b) < 0
        · rw [if_pos hp, if_pos (hk.1 hp)]; rfl
        · rw [if_neg hp, if_neg (fun h => hp (hk.2 h))]; rfl
end Go.Proofs.Ytlgplhanhnjeiaa
