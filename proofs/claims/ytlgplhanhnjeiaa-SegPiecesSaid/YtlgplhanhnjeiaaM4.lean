/-
  Layer 2: the mathematics of a merge in place.
-/
import Derived.Test.YtlgplhanhnjeiaaM3
namespace Go.Proofs.Ytlgplhanhnjeiaa
open Go.RowKit Go.Tab Go.Sort

theorem rot_a {s m e x : Nat} (h1 : s ≤ x) (h2 : x < s + (e - m)) : rotI s m e x = x - s + m := by unfold rotI; rw [if_pos ⟨h1, h2⟩]
theorem rot_b {s m e x : Nat} (h1 : s + (e - m) ≤ x) (h2 : x < e) : rotI s m e x = x - (e - m) := by unfold rotI; rw [if_neg (by omega), if_pos ⟨h1, h2⟩]
theorem rot_o {s m e x : Nat} (hs : s ≤ m) (hm : m ≤ e) (h : x < s ∨ e ≤ x) : rotI s m e x = x := by unfold rotI; rw [if_neg (by omega), if_neg (by omega)]
theorem Rotd.none {s m e : Nat} (hs : s ≤ m) (hm : m ≤ e) (h : s = m ∨ e = m) (d : Array CutB) : Rotd s m e d d :=
  ⟨rfl, fun x _ => by congr 1; unfold rotI; split <;> (try split) <;> omega, permIn_refl _ _ _⟩
def leB (x y : CutB) : Prop := ltB y x = false
theorem leB_trans {x y z : CutB} (h1 : leB x y) (h2 : leB y z) : leB x z := swoB.ntrans _ _ _ h2 h1
theorem leB_of_lt {x y : CutB} (h : ltB x y = true) : leB x y := swoB.asymmA h
theorem leB_refl (x : CutB) : leB x x := swoB.irrefl x
theorem ltB_le {x y z w : CutB} (h1 : leB x y) (h2 : ltB y z = true) (h3 : leB z w) : ltB x w = true := by
  cases hb : ltB x w with
  | true => rfl
  | false => rw [swoB.ntrans y x z h1 (swoB.ntrans x w z hb h3)] at h2; cases h2
abbrev SrtB (a b : Nat) (d : Array CutB) : Prop := SortedIn ltB a b d
theorem SrtB.le {a b : Nat} {d : Array CutB} (h : SrtB a b d) {i j : Nat} (hi : a ≤ i) (hij : i ≤ j) (hj : j < b) : leB d[i]! d[j]! := by
  rcases Nat.lt_or_ge i j with h1 | h1
  · exact h i j hi h1 hj
  · have : i = j := by omega
    subst this; exact leB_refl _
/-- Two halves, each in order, the first below the second. -/
structure Halves (a s mid e b : Nat) (d' : Array CutB) : Prop where
  h1 : SrtB a s d'
  h2 : SrtB s mid d'
  h3 : SrtB mid e d'
  h4 : SrtB e b d'
  cross : ∀ i j, a ≤ i → i < mid → mid ≤ j → j < b → leB d'[i]! d'[j]!
theorem halves {a s m e b : Nat} {d d' : Array CutB} (has : a ≤ s) (hsm : s ≤ m) (hme : m ≤ e) (heb : e ≤ b) (hb : b ≤ d.size) (S1 : SrtB a m d) (S2 : SrtB m b d) (R : Rotd s m e d d')
    (X1 : ∀ i j, a ≤ i → i < s → e ≤ j → j < b → leB d[i]! d[j]!) (X2 : ∀ i j, s ≤ i → i < m → m ≤ j → j < e → leB d[j]! d[i]!) : Halves a s (s + (e - m)) e b d' where
  h1 i j hi hij hj := by
    rw [R.at_ i (by omega), R.at_ j (by omega), rot_o hsm hme (by omega), rot_o hsm hme (by omega)]
    exact S1 i j hi hij (by omega)
  h2 i j hi hij hj := by
    rw [R.at_ i (by omega), R.at_ j (by omega), rot_a (by omega) (by omega), rot_a (by omega) (by omega)]
    exact S2 _ _ (by omega) (by omega) (by omega)
  h3 i j hi hij hj := by
    rw [R.at_ i (by omega), R.at_ j (by omega), rot_b (by omega) (by omega), rot_b (by omega) (by omega)]
    exact S1 _ _ (by omega) (by omega) (by omega)
  h4 i j hi hij hj := by
    rw [R.at_ i (by omega), R.at_ j (by omega), rot_o hsm hme (by omega), rot_o hsm hme (by omega)]
    exact S2 i j (by omega) hij hj
  cross i j hi him hj hjb := by
    rw [R.at_ i (by omega), R.at_ j (by omega)]
    rcases Nat.lt_or_ge i s with h1 | h1 <;> rcases Nat.lt_or_ge j e with h2 | h2
    · rw [rot_o hsm hme (by omega), rot_b (by omega) (by omega)]
      exact S1.le (by omega) (by omega) (by omega)
    · rw [rot_o hsm hme (by omega), rot_o hsm hme (by omega)]
      exact X1 i j hi h1 h2 hjb
    · rw [rot_a (by omega) (by omega), rot_b (by omega) (by omega)]
      exact X2 _ _ (by omega) (by omega) (by omega) (by omega)
    · rw [rot_a (by omega) (by omega), rot_o hsm hme (by omega)]
      exact S2.le (by omega) (by omega) (by omega)
/-- Each half in order: the whole is. -/
theorem whole {a mid b : Nat} {d' d1 d2 : Array CutB} (ham : a ≤ mid) (hmb : mid ≤ b) (hb : b ≤ d'.size) (C : ∀ i j, a ≤ i → i < mid → mid ≤ j → j < b → leB d'[i]! d'[j]!)
    (P1 : PermIn a mid d' d1) (S1 : SrtB a mid d1) (P2 : PermIn mid b d1 d2) (S2 : SrtB mid b d2) : PermIn a b d' d2 ∧ SrtB a b d2 := by
  have hs1 : d1.size = d'.size := P1.1
  refine ⟨permIn_trans _ _ _ _ _ (permIn_mono _ _ a mid a b (Nat.le_refl _) hmb hb P1) (permIn_mono _ _ mid b a b ham (Nat.le_refl _) (by rw [hs1]; exact hb) P2), fun i j hi hij hj => ?_⟩
  rcases Nat.lt_or_ge j mid with h1 | h1
  · rw [P2.2.1 i (by omega), P2.2.1 j (by omega)]; exact S1 i j hi hij h1
  · rcases Nat.lt_or_ge i mid with h2 | h2
    · rw [P2.2.1 i (by omega)]
      have A1 := permIn_all d' d1 a mid (fun z => ∀ j, mid ≤ j → j < b → leB z d'[j]!) (by omega) P1 (fun i hi him j hj hjb => C i j hi him hj hjb) i hi h2
      have A2 := permIn_all d1 d2 mid b (fun z => leB d1[i]! z) (by omega) P2 (fun j hj hjb => by rw [P1.2.1 j (by omega)]; exact A1 j hj hjb) j h1 hj
      exact A2
    · exact S2 i j h2 hij hj
theorem SrtB.glue {a s b : Nat} {d : Array CutB} (h1 : SrtB a s d) (h2 : SrtB s b d) (h : s ≤ a ∨ b ≤ s) : SrtB a b d := fun i j hi hij hj => by
  rcases h with h | h
  · exact h2 i j (by omega) hij hj
  · exact h1 i j hi hij (by omega)
/-- One run is a single element: put in. -/
theorem put_front {a e b : Nat} {d d' : Array CutB} (hme : a + 1 ≤ e) (heb : e ≤ b) (hb : b ≤ d.size) (S2 : SrtB (a + 1) b d) (R : Rotd a (a + 1) e d d')
    (L : ∀ x, a + 1 ≤ x → x < e → ltB d[x]! d[a]! = true) (G : ∀ x, e ≤ x → x < b → ltB d[x]! d[a]! = false) : PermIn a b d d' ∧ SrtB a b d' := by
  have H := halves (a := a) (s := a) (m := a + 1) (e := e) (b := b) (Nat.le_refl _) (by omega) hme heb hb (fun i j h1 h2 h3 => by omega) S2 R (fun i j h1 h2 => by omega) (fun i j h1 h2 h3 h4 => by
    have : i = a := by omega
    subst this
    exact leB_of_lt (L j h3 h4))
  refine ⟨permIn_mono _ _ a e a b (Nat.le_refl _) heb hb R.perm, ?_⟩
  have hd : SrtB (a + (e - (a + 1))) b d' := fun i j hi hij hj => by
    rcases Nat.lt_or_ge i e with h1 | h1
    · rw [R.at_ i (by omega), R.at_ j (by omega), rot_b (x := i) (by omega) (by omega), rot_o (x := j) (by omega) hme (by omega)]
      rw [show i - (e - (a + 1)) = a by omega]
      exact G j (by omega) hj
    · exact H.h4 i j h1 hij hj
  exact (whole (by omega) (by omega) (by rw [R.size]; exact hb) H.cross (permIn_refl _ _ _) (SrtB.glue H.h1 H.h2 (.inl (Nat.le_refl _))) (permIn_refl _ _ _) hd).2
theorem put_back {a s m : Nat} {d d' : Array CutB} (has : a ≤ s) (hsm : s ≤ m) (hb : m + 1 ≤ d.size) (S1 : SrtB a m d) (R : Rotd s m (m + 1) d d')
    (L : ∀ x, a ≤ x → x < s → ltB d[m]! d[x]! = false) (G : ∀ x, s ≤ x → x < m → ltB d[m]! d[x]! = true) : PermIn a (m + 1) d d' ∧ SrtB a (m + 1) d' := by
  have H := halves (a := a) (s := s) (m := m) (e := m + 1) (b := m + 1) has hsm (by omega) (Nat.le_refl _) hb S1 (fun i j h1 h2 h3 => by omega) R (fun i j h1 h2 h3 h4 => by omega) (fun i j h1 h2 h3 h4 => by
    have : j = m := by omega
    subst this
    exact leB_of_lt (G i h1 h2))
  refine ⟨permIn_mono _ _ s (m + 1) a (m + 1) has (Nat.le_refl _) hb R.perm, ?_⟩
  have hd : SrtB a (s + (m + 1 - m)) d' := fun i j hi hij hj => by
    rcases Nat.lt_or_ge j s with h1 | h1
    · exact H.h1 i j hi hij h1
    · rw [R.at_ i (by omega), R.at_ j (by omega), rot_o (x := i) hsm (by omega) (by omega), rot_a (x := j) (by omega) (by omega)]
      rw [show j - s + m = m by omega]
      exact L i hi (by omega)
  exact (whole (by omega) (by omega) (by rw [R.size]; exact hb) H.cross (permIn_refl _ _ _) hd (permIn_refl _ _ _) (SrtB.glue H.h3 H.h4 (.inr (by omega)))).2

/-- What the search has found out. -/
structure Srch (a m b lo hi p s r : Nat) (d : Array CutB) : Prop where
  lo_le : lo ≤ s
  le : s ≤ r
  le_hi : r ≤ hi
  low : ∀ c, lo ≤ c → c < s → leB d[c]! d[p - c]!
  high : ∀ c, r ≤ c → c < hi → ltB d[p - c]! d[c]! = true
structure Rng (a m b lo hi p : Nat) : Prop where
  lo_hi : lo ≤ hi
  lo_a : a ≤ lo
  hi_m : hi ≤ m
  p_lo : ∀ c, lo ≤ c → c < hi → m ≤ p - c ∧ p - c < b ∧ c ≤ p
theorem Srch.up {a m b lo hi p s r c : Nat} {d : Array CutB} (h : Srch a m b lo hi p s r d) (g : Rng a m b lo hi p) (hb : b ≤ d.size) (S1 : SrtB a m d) (S2 : SrtB m b d) (h1 : s ≤ c) (h2 : c < r) (hc : ltB d[p - c]! d[c]! = false) : Srch a m b lo hi p (c + 1) r d where
  lo_le := by have := h.lo_le; omega
  le := h2
  le_hi := h.le_hi
  low x hx hxc := by
    have := h.le_hi
    have := g.lo_a
    have := g.hi_m
    have gc := g.p_lo c (by omega) (by omega)
    have gx := g.p_lo x hx (by omega)
    exact leB_trans (S1.le (by omega) (show x ≤ c by omega) (by omega)) (leB_trans hc (S2.le (by omega) (by omega) (by omega)))
  high := h.high
theorem Srch.down {a m b lo hi p s r c : Nat} {d : Array CutB} (h : Srch a m b lo hi p s r d) (g : Rng a m b lo hi p) (hb : b ≤ d.size) (S1 : SrtB a m d) (S2 : SrtB m b d) (h1 : s ≤ c) (h2 : c < r) (hc : ltB d[p - c]! d[c]! = true) : Srch a m b lo hi p s c d where
  lo_le := h.lo_le
  le := h1
  le_hi := by have := h.le_hi; omega
  low := h.low
  high x hx hxc := by
    have := h.le_hi
    have := h.lo_le
    have := g.lo_a
    have := g.hi_m
    have gc := g.p_lo c (by omega) (by omega)
    have gx := g.p_lo x (by omega) (by omega)
    exact ltB_le (S2.le (by omega) (by omega) (by omega)) hc (S1.le (by omega) hx (by omega))
/-- Where the search ends, the halves can be made. -/
theorem Srch.fin {a m b lo hi n s : Nat} {d : Array CutB} (h : Srch a m b lo hi (n - 1) s s d) (g : Rng a m b lo hi (n - 1)) (hn : 0 < n) (hb : b ≤ d.size) (S1 : SrtB a m d) (S2 : SrtB m b d) (hlo : lo = a ∨ n - lo = b) (hhi : hi = m ∨ n - hi = m) (hse : m ≤ n - s) (heb : n - s ≤ b) (hsn : s < n) :
    (∀ i j, a ≤ i → i < s → n - s ≤ j → j < b → leB d[i]! d[j]!) ∧ (∀ i j, s ≤ i → i < m → m ≤ j → j < n - s → leB d[j]! d[i]!) := by
  have := h.le_hi
  have := h.lo_le
  have := g.lo_a
  have := g.hi_m
  constructor
  · intro i j hi1 his hej hjb
    rcases Nat.lt_or_ge lo s with hl | hl
    · have gc := g.p_lo (s - 1) (by omega) (by omega)
      have hL := h.low (s - 1) (by omega) (by omega)
      rw [show n - 1 - (s - 1) = n - s by omega] at hL
      exact leB_trans (S1.le hi1 (show i ≤ s - 1 by omega) (by omega)) (leB_trans hL (S2.le (by omega) hej hjb))
    · rcases hlo with e | e <;> omega
  · intro i j hsi him hmj hje
    rcases Nat.lt_or_ge s hi with hl | hl
    · have gc := g.p_lo s (by omega) hl
      have hH := h.high s (Nat.le_refl _) hl
      exact leB_trans (S2.le hmj (show j ≤ n - 1 - s by omega) (by omega)) (leB_trans (leB_of_lt hH) (S1.le (by omega) hsi him))
    · rcases hhi with e | e <;> omega
end Go.Proofs.Ytlgplhanhnjeiaa
