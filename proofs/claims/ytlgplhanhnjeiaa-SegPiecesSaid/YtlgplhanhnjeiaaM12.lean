/-
  Layer 2: what lies between cuts: the mathematics.
-/
import Derived.Test.YtlgplhanhnjeiaaM10
namespace Go.Proofs.Ytlgplhanhnjeiaa
open Go.RowKit Go.Tab Go.Sort

theorem leD_ab (p q : Int) : leD p q p q := by unfold leD; omega
theorem good_b {a b : Pt} {c : Cut} (hc : goodC a b c) : leP a b c.1 b := by
  have h1 := @rnd_mono a.1 b.1 c.2.1 c.2.2 1 1 hc.1.2.2.1 (by omega) (by have := hc.2.2.1; omega)
  have h2 := @rnd_mono a.2 b.2 c.2.1 c.2.2 1 1 hc.1.2.2.1 (by omega) (by have := hc.2.2.1; omega)
  rw [rnd_1] at h1 h2
  rw [hc.2.2.2]
  exact ⟨h1, h2⟩
def allF (a b : Pt) (L : List Pt) : List Pt := a :: (L ++ [b])
theorem allF_len (a b : Pt) (L : List Pt) : (allF a b L).length = L.length + 2 := by simp [allF]
theorem IsCuts.ends {a b : Pt} {xs ys : List Int} {L : List Pt} (h : IsCuts a b xs ys L) {p : Pt} (hp : p ∈ L) : leP a b a p ∧ leP a b p b := by
  obtain ⟨-, -, k, hk, rfl⟩ := (h.2 p).1 hp
  exact ⟨good_a (cuts_good hk), good_b (cuts_good hk)⟩
theorem all_pair {a b : Pt} {xs ys : List Int} {L : List Pt} (h : IsCuts a b xs ys L) : (allF a b L).Pairwise (leP a b) := by
  refine List.pairwise_cons.2 ⟨fun p hp => ?_, List.pairwise_append.2 ⟨h.1.imp (fun h => h.1), List.pairwise_singleton _ _, fun p hp q hq => ?_⟩⟩
  · rcases List.mem_append.1 hp with hp | hp
    · exact (h.ends hp).1
    · rw [List.mem_singleton] at hp; subst hp; exact ⟨leD_ab _ _, leD_ab _ _⟩
  · rw [List.mem_singleton] at hq; subst hq; exact (h.ends hp).2
theorem all_ends {a b : Pt} {xs ys : List Int} {L : List Pt} (h : IsCuts a b xs ys L) {p : Pt} (hp : p ∈ allF a b L) : leP a b a p ∧ leP a b p b := by
  rcases List.mem_cons.1 hp with rfl | hp
  · exact ⟨⟨leD_refl _ _ _, leD_refl _ _ _⟩, leD_ab _ _, leD_ab _ _⟩
  · rcases List.mem_append.1 hp with hp | hp
    · exact h.ends hp
    · rw [List.mem_singleton] at hp; subst hp; exact ⟨⟨leD_ab _ _, leD_ab _ _⟩, leD_refl _ _ _, leD_refl _ _ _⟩
theorem atX_has {a b : Pt} {c : Int} (ma : mayP a = true) (mb : mayP b = true) (h : (a.1 < c ∧ c < b.1) ∨ (b.1 < c ∧ c < a.1)) : (atX a b c).2 = true := by
  have r1 : rightB [(b.1, b.2), (a.1, a.2)] = true := by
    simp only [rightB, List.all_cons, List.all_nil, Bool.and_true, Bool.and_eq_true]; exact ⟨mb, ma⟩
  have r2 : rightB [(a.1, a.2), (b.1, b.2)] = true := by
    simp only [rightB, List.all_cons, List.all_nil, Bool.and_true, Bool.and_eq_true]; exact ⟨ma, mb⟩
  unfold atX
  split
  · unfold atF
    rw [if_neg (by rw [r1]; intro h; rcases h with h | h; cases h; omega)]
  · unfold atF
    rw [if_neg (by rw [r2]; intro h; rcases h with h | h; cases h; omega)]
/-- No line lies strictly between neighbours. -/
theorem no_between {a b : Pt} {xs ys : List Int} {L : List Pt} (ma : mayP a = true) (mb : mayP b = true) (h : IsCuts a b xs ys L) {i : Nat} (hi : i + 1 < (allF a b L).length) {c : Int} (hc : c ∈ xs) :
    ¬ ((((allF a b L).getD i (0, 0)).1 < c ∧ c < ((allF a b L).getD (i + 1) (0, 0)).1) ∨ (((allF a b L).getD (i + 1) (0, 0)).1 < c ∧ c < ((allF a b L).getD i (0, 0)).1)) := by
  have hp := all_pair h
  have e1 : (allF a b L).getD i (0, 0) = (allF a b L)[i] := by rw [List.getD_eq_getElem?_getD, List.getElem?_eq_getElem (by omega)]; rfl
  have e2 : (allF a b L).getD (i + 1) (0, 0) = (allF a b L)[i + 1] := by rw [List.getD_eq_getElem?_getD, List.getElem?_eq_getElem (by omega)]; rfl
  have le : ∀ j k (hj : j < (allF a b L).length) (hk : k < (allF a b L).length), j ≤ k → leP a b (allF a b L)[j] (allF a b L)[k] := by
    intro j k hj hk hjk
    rcases Nat.lt_or_eq_of_le hjk with h1 | h1
    · exact (List.pairwise_iff_getElem.1 hp) j k hj hk h1
    · subst h1; exact ⟨leD_refl _ _ _, leD_refl _ _ _⟩
  have hpq := (le i (i + 1) (by omega) hi (by omega)).1
  have h1 := (all_ends h (List.getElem_mem (show i < (allF a b L).length by omega))).1.1
  have h2 := (all_ends h (List.getElem_mem hi)).2.1
  have h3 := (all_ends h (List.getElem_mem (show i < (allF a b L).length by omega))).2.1
  have h4 := (all_ends h (List.getElem_mem hi)).1.1
  rw [e1, e2]
  intro hb
  have hin : (a.1 < c ∧ c < b.1) ∨ (b.1 < c ∧ c < a.1) := by
    unfold leD at hpq h1 h2 h3 h4
    omega
  have hm : (c, (atX a b c).1) ∈ allF a b L := by
    refine List.mem_cons_of_mem _ (List.mem_append_left _ ((h.2 _).2 ⟨?_, ?_, mem_cuts.2 (.inl ⟨c, hc, atX_has ma mb hin, rfl⟩)⟩))
    · intro e; have : c = a.1 := by rw [← e]
      omega
    · intro e; have : c = b.1 := by rw [← e]
      omega
  obtain ⟨j, hj, he⟩ := List.getElem_of_mem hm
  rcases Nat.lt_or_ge i j with h5 | h5
  · have := (le (i + 1) j hi hj (by omega)).1
    rw [he] at this
    unfold leD at hpq h1 h2 h3 h4 this
    simp only at this
    omega
  · have := (le j i hj (by omega) h5).1
    rw [he] at this
    unfold leD at hpq h1 h2 h3 h4 this
    simp only at this
    omega
def sw (p : Pt) : Pt := (p.2, p.1)
theorem sw_sw (p : Pt) : sw (sw p) = p := rfl
theorem sw_inj {p q : Pt} (h : sw p = sw q) : p = q := by rw [← sw_sw p, h]; rfl
theorem IsCuts.turn {a b : Pt} {xs ys : List Int} {L : List Pt} (h : IsCuts a b xs ys L) : IsCuts (sw a) (sw b) ys xs (L.map sw) := by
  refine ⟨?_, fun p => ?_⟩
  · rw [List.pairwise_map]
    exact h.1.imp (fun k => ⟨⟨k.1.2, k.1.1⟩, fun e => k.2 (sw_inj e)⟩)
  · have hm : p ∈ L.map sw ↔ sw p ∈ L := by
      rw [List.mem_map]
      exact ⟨fun ⟨x, hx, e⟩ => by rw [← e]; exact hx, fun hx => ⟨sw p, hx, rfl⟩⟩
    rw [hm, h.2 (sw p), mem_cuts, mem_cuts]
    have e1 : sw p ≠ a ↔ p ≠ sw a := ⟨fun k e => k (by rw [e]; rfl), fun k e => k (by rw [← e]; rfl)⟩
    have e2 : sw p ≠ b ↔ p ≠ sw b := ⟨fun k e => k (by rw [e]; rfl), fun k e => k (by rw [← e]; rfl)⟩
    rw [e1, e2]
    have e3 : ∀ u v : Int, sw p = (u, v) ↔ p = (v, u) := fun u v => ⟨fun k => by rw [← sw_sw p, k]; rfl, fun k => by rw [k]; rfl⟩
    simp only [e3]
    rw [Or.comm (a := ∃ c ∈ xs, (atX a b c).2 = true ∧ p = ((atX a b c).1, c))]
    rfl
theorem allF_sw (a b : Pt) (L : List Pt) : allF (sw a) (sw b) (L.map sw) = (allF a b L).map sw := by simp [allF]
theorem no_betweenY {a b : Pt} {xs ys : List Int} {L : List Pt} (ma : mayP a = true) (mb : mayP b = true) (h : IsCuts a b xs ys L) {i : Nat} (hi : i + 1 < (allF a b L).length) {c : Int} (hc : c ∈ ys) :
    ¬ ((((allF a b L).getD i (0, 0)).2 < c ∧ c < ((allF a b L).getD (i + 1) (0, 0)).2) ∨ (((allF a b L).getD (i + 1) (0, 0)).2 < c ∧ c < ((allF a b L).getD i (0, 0)).2)) := by
  have m1 : mayP (sw a) = true := by unfold mayP sw at *; rw [mayB_iff] at *; omega
  have m2 : mayP (sw b) = true := by unfold mayP sw at *; rw [mayB_iff] at *; omega
  have k := no_between m1 m2 h.turn (i := i) (by rw [allF_sw, List.length_map]; exact hi) hc
  have e : ∀ j, j < (allF a b L).length → ((allF a b L).map sw).getD j (0, 0) = sw ((allF a b L).getD j (0, 0)) := by
    intro j hj
    rw [List.getD_eq_getElem?_getD, List.getD_eq_getElem?_getD, List.getElem?_map, List.getElem?_eq_getElem hj]; rfl
  rw [allF_sw, e i (by omega), e (i + 1) hi] at k
  exact k
theorem all_may {a b : Pt} {xs ys : List Int} {L : List Pt} (ma : mayP a = true) (mb : mayP b = true) (h : IsCuts a b xs ys L) {p : Pt} (hp : p ∈ allF a b L) : mayP p = true := by
  obtain ⟨⟨h1, h2⟩, h3, h4⟩ := all_ends h hp
  unfold mayP at *
  rw [mayB_iff] at *
  unfold leD at *
  omega
theorem near_core {N w y : Int} (hw : 0 < w) (hy : y = (2 * N + w) / (2 * w)) : -w ≤ 2 * (N - w * y) ∧ 2 * (N - w * y) ≤ w := by
  have h1 := Int.mul_ediv_self_le (x := 2 * N + w) (k := 2 * w) (by omega)
  have h2 := Int.lt_mul_ediv_self_add (x := 2 * N + w) (k := 2 * w) (by omega)
  rw [← hy, Int.mul_assoc] at h1 h2
  omega
def farM (a b : Pt) : Int := max (max (a.1 - b.1) (b.1 - a.1)) (max (a.2 - b.2) (b.2 - a.2))
theorem nearX {a b : Pt} {c : Int} (h : (atX a b c).2 = true) : 2 * max (cr a b (c, (atX a b c).1)) (-(cr a b (c, (atX a b c).1))) ≤ max (a.1 - b.1) (b.1 - a.1) := by
  obtain ⟨ax, ay⟩ := a
  obtain ⟨bx, b_y⟩ := b
  unfold atX at h ⊢
  simp only at h ⊢
  split at h
  · rename_i hs
    rw [if_pos hs, atF_val h]
    obtain ⟨h1, h2⟩ := near_core (N := b_y * (ax - bx) + (c - bx) * (ay - b_y)) (w := ax - bx) (by omega) rfl
    generalize (2 * (b_y * (ax - bx) + (c - bx) * (ay - b_y)) + (ax - bx)) / (2 * (ax - bx)) = y at h1 h2 ⊢
    have e : cr (ax, ay) (bx, b_y) (c, y) = b_y * (ax - bx) + (c - bx) * (ay - b_y) - (ax - bx) * y := by unfold cr crossI; simp only; grind
    rw [e]
    omega
  · rename_i hs
    rw [if_neg hs, atF_val h]
    have hw : ax < c ∧ c < bx := by obtain ⟨-, -, h1, h2⟩ := atF_in h; exact ⟨h1, h2⟩
    obtain ⟨h1, h2⟩ := near_core (N := ay * (bx - ax) + (c - ax) * (b_y - ay)) (w := bx - ax) (by omega) rfl
    generalize (2 * (ay * (bx - ax) + (c - ax) * (b_y - ay)) + (bx - ax)) / (2 * (bx - ax)) = y at h1 h2 ⊢
    have e : cr (ax, ay) (bx, b_y) (c, y) = -(ay * (bx - ax) + (c - ax) * (b_y - ay) - (bx - ax) * y) := by unfold cr crossI; simp only; grind
    rw [e]
    omega
theorem cr_sw (a b p : Pt) : cr (sw a) (sw b) (sw p) = - cr a b p := by unfold cr crossI sw; simp only; grind
theorem near_all {a b : Pt} {xs ys : List Int} {L : List Pt} (h : IsCuts a b xs ys L) {p : Pt} (hp : p ∈ allF a b L) : 2 * max (cr a b p) (-(cr a b p)) ≤ farM a b := by
  have h0 : 0 ≤ farM a b := by unfold farM; omega
  rcases List.mem_cons.1 hp with rfl | hp
  · rw [cr_aa]; omega
  · rcases List.mem_append.1 hp with hp | hp
    · obtain ⟨-, -, hk⟩ := (h.2 p).1 hp
      rcases mem_cuts.1 hk with ⟨c, hc, h1, rfl⟩ | ⟨c, hc, h1, rfl⟩
      · have := nearX h1
        unfold farM; omega
      · have := nearX (a := sw a) (b := sw b) h1
        have e : cr (sw a) (sw b) (c, (atX (sw a) (sw b) c).1) = - cr a b ((atY a b c).1, c) := cr_sw a b ((atY a b c).1, c)
        rw [e] at this
        unfold farM
        have e2 : (sw a).1 - (sw b).1 = a.2 - b.2 := rfl
        have e3 : (sw b).1 - (sw a).1 = b.2 - a.2 := rfl
        omega
    · rw [List.mem_singleton] at hp; subst hp
      rw [cr_bb]; omega
end Go.Proofs.Ytlgplhanhnjeiaa
