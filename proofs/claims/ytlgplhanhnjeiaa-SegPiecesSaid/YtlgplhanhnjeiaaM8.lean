/-
  Layer 2: the mathematics of cuts: their order, and that there is one list of them.
-/
import Derived.Test.YtlgplhanhnjeiaaM7
import Derived.Test.YtlgplhanhnjeiaaS12
namespace Go.Proofs.Ytlgplhanhnjeiaa
open Go.RowKit Go.Tab Go.Sort

/-- Along a segment: p not behind q. -/
def leD (a b p q : Int) : Prop := (a < b → p ≤ q) ∧ (b < a → q ≤ p) ∧ (a = b → p = q)
def leP (a b p q : Pt) : Prop := leD a.1 b.1 p.1 q.1 ∧ leD a.2 b.2 p.2 q.2
def bef (a b p q : Pt) : Prop := leP a b p q ∧ p ≠ q
theorem leD_refl (a b p : Int) : leD a b p p := by unfold leD; omega
theorem leD_trans {a b p q r : Int} (h1 : leD a b p q) (h2 : leD a b q r) : leD a b p r := by unfold leD at *; omega
theorem leD_anti {a b p q : Int} (h1 : leD a b p q) (h2 : leD a b q p) : p = q := by unfold leD at *; omega
theorem leP_trans {a b p q r : Pt} (h1 : leP a b p q) (h2 : leP a b q r) : leP a b p r := ⟨leD_trans h1.1 h2.1, leD_trans h1.2 h2.2⟩
theorem leP_anti {a b p q : Pt} (h1 : leP a b p q) (h2 : leP a b q p) : p = q := Prod.ext (leD_anti h1.1 h2.1) (leD_anti h1.2 h2.2)
theorem bef_asymm {a b p q : Pt} (h1 : bef a b p q) (h2 : bef a b q p) : False := h1.2 (leP_anti h1.1 h2.1)
theorem leP_flip {a b p q : Pt} (h : leP a b p q) : leP b a q p := by unfold leP leD at *; omega
/-- Two lists in strict order with the same members are one. -/
theorem strict_uniq {a b : Pt} : ∀ {l m : List Pt}, l.Pairwise (bef a b) → m.Pairwise (bef a b) → (∀ p, p ∈ l ↔ p ∈ m) → l = m
  | [], [], _, _, _ => rfl
  | [], y :: m, _, _, h => by have := (h y).2 List.mem_cons_self; cases this
  | x :: l, [], _, _, h => by have := (h x).1 List.mem_cons_self; cases this
  | x :: l, y :: m, h1, h2, h => by
    rw [List.pairwise_cons] at h1 h2
    have hxy : x = y := by
      rcases List.mem_cons.1 ((h x).1 List.mem_cons_self) with e | e
      · exact e
      · rcases List.mem_cons.1 ((h y).2 List.mem_cons_self) with e2 | e2
        · exact e2.symm
        · exact (bef_asymm (h1.1 y e2) (h2.1 x e)).elim
    subst hxy
    congr 1
    refine strict_uniq h1.2 h2.2 (fun p => ⟨fun hp => ?_, fun hp => ?_⟩)
    · rcases List.mem_cons.1 ((h p).1 (List.mem_cons_of_mem _ hp)) with e | e
      · subst e; exact ((h1.1 p hp).2 rfl).elim
      · exact e
    · rcases List.mem_cons.1 ((h p).2 (List.mem_cons_of_mem _ hp)) with e | e
      · subst e; exact ((h2.1 p hp).2 rfl).elim
      · exact e
/-- What is left of cuts that lie one behind the other. -/
theorem ded_spec {a b : Pt} : ∀ (s : List Cut) (l : Pt), s.Pairwise (fun c d => leP a b c.1 d.1) → (∀ c ∈ s, leP a b l c.1) →
    (dedF b l s).Pairwise (bef a b) ∧ (∀ p ∈ dedF b l s, bef a b l p) ∧ (∀ p, p ∈ dedF b l s ↔ (p ≠ l ∧ p ≠ b ∧ ∃ c ∈ s, c.1 = p))
  | [], l, _, _ => by simp [dedF]
  | c :: r, l, hp, hl => by
    rw [List.pairwise_cons] at hp
    rw [dedF]
    split
    · rename_i hc
      obtain ⟨h1, h2, h3⟩ := ded_spec r l hp.2 (fun x hx => hl x (List.mem_cons_of_mem _ hx))
      refine ⟨h1, h2, fun p => (h3 p).trans ⟨fun ⟨q1, q2, x, hx, e⟩ => ⟨q1, q2, x, List.mem_cons_of_mem _ hx, e⟩, fun ⟨q1, q2, x, hx, e⟩ => ⟨q1, q2, ?_⟩⟩⟩
      rcases List.mem_cons.1 hx with rfl | hx
      · rcases hc with hc | hc
        · exact (q1 (e.symm.trans hc)).elim
        · exact (q2 (e.symm.trans hc)).elim
      · exact ⟨x, hx, e⟩
    · rename_i hc
      obtain ⟨h1, h2, h3⟩ := ded_spec r c.1 hp.2 (fun x hx => hp.1 x hx)
      have hlc : bef a b l c.1 := ⟨hl c List.mem_cons_self, fun e => hc (.inl e.symm)⟩
      have hb : ∀ p, bef a b c.1 p → bef a b l p := fun p hp => ⟨leP_trans hlc.1 hp.1, fun e => by subst e; exact bef_asymm hlc hp⟩
      refine ⟨List.pairwise_cons.2 ⟨h2, h1⟩, fun p hp => ?_, fun p => ⟨fun hp => ?_, fun ⟨q1, q2, x, hx, e⟩ => ?_⟩⟩
      · rcases List.mem_cons.1 hp with rfl | hp
        · exact hlc
        · exact hb p (h2 p hp)
      · rcases List.mem_cons.1 hp with rfl | hp
        · exact ⟨fun e => hc (.inl e), fun e => hc (.inr e), c, List.mem_cons_self, rfl⟩
        · obtain ⟨q1, q2, x, hx, e⟩ := (h3 p).1 hp
          exact ⟨(hb p (h2 p hp)).2.symm, q2, x, List.mem_cons_of_mem _ hx, e⟩
      · rcases List.mem_cons.1 hx with rfl | hx
        · rw [← e]; exact List.mem_cons_self
        · by_cases ec : p = c.1
          · rw [ec]; exact List.mem_cons_self
          · exact List.mem_cons_of_mem _ ((h3 p).2 ⟨ec, q2, x, hx, e⟩)
/-- The number at f of w from p to q, rounded. -/
def rndR (p q f w : Int) : Int := (2 * (p * w + f * (q - p)) + w) / (2 * w)
theorem le_rnd {p q f w z : Int} (hw : 0 < w) : z ≤ rndR p q f w ↔ z * (2 * w) ≤ 2 * (p * w + f * (q - p)) + w := Int.le_ediv_iff_mul_le (by omega)
theorem rnd_mono {p q f w f' w' : Int} (hw : 0 < w) (hw' : 0 < w') (h : f * w' ≤ f' * w) : leD p q (rndR p q f w) (rndR p q f' w') := by
  have key : ∀ (f w f' w' s : Int), 0 < w → 0 < w' → f * w' * s ≤ f' * w * s → ∀ z, z * (2 * w) ≤ 2 * (p * w + f * s) + w → z * (2 * w') ≤ 2 * (p * w' + f' * s) + w' := by
    intro f w f' w' s hw hw' h z hz
    have h1 := Int.mul_le_mul_of_nonneg_right hz (Int.le_of_lt hw')
    refine Int.le_of_mul_le_mul_right (a := w) ?_ hw
    have e1 : z * (2 * w) * w' = 2 * (z * w * w') := by rw [← Int.mul_assoc, Int.mul_comm z 2, Int.mul_assoc 2, Int.mul_assoc 2]
    have e2 : z * (2 * w') * w = 2 * (z * w * w') := by rw [Int.mul_left_comm z 2 w', Int.mul_assoc 2, Int.mul_assoc z, Int.mul_comm w' w, ← Int.mul_assoc z]
    have e3 : (2 * (p * w + f * s) + w) * w' = 2 * (p * w * w') + 2 * (f * w' * s) + w * w' := by
      rw [Int.add_mul, Int.mul_assoc 2, Int.add_mul, Int.mul_add, Int.mul_assoc f s w', Int.mul_comm s w', ← Int.mul_assoc f w' s]
    have e4 : (2 * (p * w' + f' * s) + w') * w = 2 * (p * w * w') + 2 * (f' * w * s) + w * w' := by
      rw [Int.add_mul, Int.mul_assoc 2, Int.add_mul, Int.mul_add, Int.mul_assoc f' s w, Int.mul_comm s w, ← Int.mul_assoc f' w s, Int.mul_assoc p w' w, Int.mul_comm w' w, ← Int.mul_assoc p w w']
    omega
  refine ⟨fun hpq => ?_, fun hpq => ?_, fun hpq => ?_⟩
  · rw [le_rnd hw']
    exact key f w f' w' (q - p) hw hw' (Int.mul_le_mul_of_nonneg_right h (by omega)) _ ((le_rnd hw).1 (Int.le_refl _))
  · rw [le_rnd hw]
    exact key f' w' f w (q - p) hw' hw (Int.mul_le_mul_of_nonpos_right h (by omega)) _ ((le_rnd hw').1 (Int.le_refl _))
  · subst hpq
    have e : ∀ f w : Int, 0 < w → rndR p p f w = p := fun f w hw => by
      unfold rndR
      rw [Int.sub_self, Int.mul_zero, Int.add_zero, ← Int.mul_assoc, Int.mul_comm 2 p, Int.mul_assoc, Int.add_comm, Int.add_mul_ediv_right _ _ (by omega), Int.ediv_eq_zero_of_lt (by omega) (by omega)]; omega
    rw [e f w hw, e f' w' hw']
theorem rnd_0 (p q : Int) : rndR p q 0 1 = p := by unfold rndR; omega
theorem rnd_1 (p q : Int) : rndR p q 1 1 = q := by unfold rndR; omega
def ptAt (a b : Pt) (f w : Int) : Pt := (rndR a.1 b.1 f w, rndR a.2 b.2 f w)
/-- A cut that lies where its fraction says. -/
def goodC (a b : Pt) (c : Cut) : Prop := okC c ∧ 0 < c.2.1 ∧ c.2.1 < c.2.2 ∧ c.1 = ptAt a b c.2.1 c.2.2
theorem good_le {a b : Pt} {c d : Cut} (hc : goodC a b c) (hd : goodC a b d) (h : c.2.1 * d.2.2 ≤ d.2.1 * c.2.2) : leP a b c.1 d.1 := by
  rw [hc.2.2.2, hd.2.2.2]
  exact ⟨rnd_mono hc.1.2.2.1 hd.1.2.2.1 h, rnd_mono hc.1.2.2.1 hd.1.2.2.1 h⟩
theorem good_a {a b : Pt} {c : Cut} (hc : goodC a b c) : leP a b a c.1 := by
  have h1 := @rnd_mono a.1 b.1 0 1 c.2.1 c.2.2 (by omega) hc.1.2.2.1 (by have := hc.2.1; omega)
  have h2 := @rnd_mono a.2 b.2 0 1 c.2.1 c.2.2 (by omega) hc.1.2.2.1 (by have := hc.2.1; omega)
  rw [rnd_0] at h1 h2
  rw [hc.2.2.2]
  exact ⟨h1, h2⟩
end Go.Proofs.Ytlgplhanhnjeiaa
