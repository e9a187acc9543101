/-
  Layer 4: places in rising lists.
-/
import Derived.Test.YtigbojdnaeaojaaO3
namespace Go.Proofs.Ytigbojdnaeaojaa
open Go.RowKit Go.Tab

/-- How many stand ahead of the first that isn't less; that is greater. -/
def lowF (n : Int) (l : List Int) : Nat := (l.takeWhile fun y => decide (y < n)).length
def uppF (n : Int) (l : List Int) : Nat := (l.takeWhile fun y => decide (y ≤ n)).length
def hasF (n : Int) (l : List Int) : Bool := decide (l[lowF n l]? = some n)

section
variable {p : Int → Bool}
theorem tw_le (l : List Int) : (l.takeWhile p).length ≤ l.length := (List.takeWhile_prefix _).length_le
theorem tw_before (l : List Int) : ∀ i, i < (l.takeWhile p).length → p (l.getD i 0) = true := by
  induction l with
  | nil => intro i h; simp at h
  | cons x l ih =>
    intro i h
    cases hx : p x with
    | false => simp [hx] at h
    | true =>
      cases i with
      | zero => simpa using hx
      | succ i => simpa using ih i (by simpa [hx] using h)
theorem tw_at (l : List Int) (h : (l.takeWhile p).length < l.length) : p (l.getD (l.takeWhile p).length 0) = false := by
  induction l with
  | nil => simp at h
  | cons x l ih =>
    cases hx : p x with
    | false => simp [hx]
    | true => simpa [hx] using ih (by simpa [hx] using h)
end
/-- Rising numbers. -/
abbrev Up (l : List Int) : Prop := l.Pairwise fun p q => p ≤ q
theorem Up.get {l : List Int} (h : Up l) {i j : Nat} (hij : i ≤ j) (hj : j < l.length) : l.getD i 0 ≤ l.getD j 0 := by
  rw [List.getD_eq_getElem?_getD, List.getD_eq_getElem?_getD, List.getElem?_eq_getElem (by omega), List.getElem?_eq_getElem hj]
  rcases Nat.lt_or_ge i j with hlt | hge
  · exact List.pairwise_iff_getElem.1 h i j (by omega) hj hlt
  · have : i = j := by omega
    subst this
    exact Int.le_refl _
theorem low_le (n : Int) (l : List Int) : lowF n l ≤ l.length := tw_le l
theorem upp_le (n : Int) (l : List Int) : uppF n l ≤ l.length := tw_le l
theorem low_before {n : Int} {l : List Int} {i : Nat} (h : i < lowF n l) : l.getD i 0 < n := of_decide_eq_true (tw_before l i h)
theorem upp_before {n : Int} {l : List Int} {i : Nat} (h : i < uppF n l) : l.getD i 0 ≤ n := of_decide_eq_true (tw_before l i h)
theorem low_at {n : Int} {l : List Int} (h : lowF n l < l.length) : n ≤ l.getD (lowF n l) 0 := by have := of_decide_eq_false (tw_at l h); exact Int.not_lt.1 this
theorem upp_at {n : Int} {l : List Int} (h : uppF n l < l.length) : n < l.getD (uppF n l) 0 := by have := of_decide_eq_false (tw_at l h); exact Int.not_le.1 this
theorem low_behind {n : Int} {l : List Int} (hl : Up l) {i : Nat} (h1 : lowF n l ≤ i) (h2 : i < l.length) : n ≤ l.getD i 0 := Int.le_trans (low_at (by omega)) (hl.get h1 h2)
theorem upp_behind {n : Int} {l : List Int} (hl : Up l) {i : Nat} (h1 : uppF n l ≤ i) (h2 : i < l.length) : n < l.getD i 0 := Int.lt_of_lt_of_le (upp_at (by omega)) (hl.get h1 h2)

theorem getD_some (l : List Int) (i : Nat) (h : i < l.length) : l[i]? = some (l.getD i 0) := by rw [List.getD_eq_getElem?_getD, List.getElem?_eq_getElem h]; rfl

set_option maxRecDepth 100000 in
theorem first_any (F : Nat) (cap : Array Value) (p : Nat → Bool) (n r : Nat) (w : World) (hn : n ≤ 1000000000) (hr : r ≤ n) (h1 : ∀ i, i < r → p i = false) (h2 : ∀ i, r ≤ i → i < n → p i = true)
    (hF : ∀ args w, Sem.run Try.prog (callFunc F args) w = .ok (.enter F args) w)
    (HA : ∀ w', Grows w w' → ∀ i : Nat, i < n → Calls Try.prog F (#[iv i] ++ cap) w' (Ret (.bool (p i)) w')) :
    Calls Try.prog 36 #[iv n, .func (.func F) #[] cap] w (Ret (iv r) w) := by
  have H1 := Lib.hid h1
  have H2 := Lib.hid h2
  have HA' := Lib.hid HA
  clear h1 h2 HA
  go_enter Try.func36, Try.ntmps36
  go_wp2
  go_loopw [5, 6] (fun lo hi wr => ∃ a c : Nat, lo = iv a ∧ hi = iv c ∧ a ≤ r ∧ r ≤ c ∧ c ≤ n ∧ Grows w wr) (fun lo hi _ => (intOf hi).toNat - (intOf lo).toNat)
  case atStart => exact ⟨0, n, rfl, rfl, Nat.zero_le _, hr, Nat.le_refl _, Grows.refl _⟩
  case round =>
    obtain ⟨a, c, rfl, rfl, ha, hc, hcn, hg⟩ := hrel
    by_cases hac : a < c
    · obtain ⟨m, hmm⟩ : ∃ m, m = a + (c - a) / 2 := ⟨_, rfl⟩
      have HC := Lib.hid (HA'.out wr hg m (by omega))
      have P1 := Lib.hid (H1.out m)
      have P2 := Lib.hid (H2.out m)
      generalize p m = pm at HC P1 P2
      have Hg := Lib.hid hg
      clear hg
      have e : (a : Int) + ((c : Int) - a) / 2 = (m : Int) := by omega
      have E := Lib.hid e
      have M1 : m < c := by omega
      have M2 : a ≤ m := by omega
      clear e hmm
      go_wp2_with fail
      rw [E.out]
      refine HC.out.mono ?_
      rintro _ w1 ⟨rfl, hg1⟩
      have G1 := Lib.hid (Hg.out.trans hg1)
      clear hg1 Hg HC E
      cases pm with
      | true =>
        go_wp2
        refine ⟨⟨a, m, rfl, rfl, ha, ?_, by omega, G1.out⟩, by simp only [intOf]; omega⟩
        by_cases h : m < r
        · have := P1.out h; cases this
        · omega
      | false =>
        go_wp2
        refine ⟨⟨m + 1, c, by simp, rfl, ?_, hc, hcn, G1.out⟩, by simp only [intOf]; omega⟩
        by_cases h : r ≤ m
        · have := P2.out h (by omega); cases this
        · omega
    · have hae : a = r := by omega
      subst hae
      go_wp2
      go_ret
      exact ⟨rfl, hg⟩

/-! ### The closures -/
set_option maxHeartbeats 400000 in
theorem find1_any (b off len cap B : Nat) (n x : Int) (i : Nat) (w : World) (hi : i < len) (h0 : w.cell? ⟨B, 0, none⟩ = some (.slice (some ⟨b, off, none⟩) len cap)) (h1 : w.cell? ⟨B + 1, 0, none⟩ = some (iv n)) (hx : w.cell? ⟨b, off + i, none⟩ = some (iv x)) :
    Calls Try.prog 37 (#[iv i] ++ #[.pointer (some ⟨B, 0, none⟩), .pointer (some ⟨B + 1, 0, none⟩)]) w (Ret (.bool (decide (n ≤ x))) w) := by
  show Calls Try.prog 37 #[iv i, .pointer (some ⟨B, 0, none⟩), .pointer (some ⟨B + 1, 0, none⟩)] w _
  go_enter Try.func37, Try.ntmps37
  go_wp2_with fail
  go_quiet (fail)
  go_wp2
  go_ret
  exact ⟨rfl, ⟨rfl, rfl, rfl, Nat.le_refl _, fun _ _ => rfl⟩⟩
set_option maxHeartbeats 400000 in
theorem strips1_any (b off len cap B : Nat) (n x : Int) (i : Nat) (w : World) (hi : i < len) (h0 : w.cell? ⟨B, 0, none⟩ = some (.slice (some ⟨b, off, none⟩) len cap)) (h1 : w.cell? ⟨B + 1, 0, none⟩ = some (iv n)) (hx : w.cell? ⟨b, off + i, none⟩ = some (iv x)) :
    Calls Try.prog 38 (#[iv i] ++ #[.pointer (some ⟨B, 0, none⟩), .pointer (some ⟨B + 1, 0, none⟩)]) w (Ret (.bool (decide (n ≤ x))) w) := by
  show Calls Try.prog 38 #[iv i, .pointer (some ⟨B, 0, none⟩), .pointer (some ⟨B + 1, 0, none⟩)] w _
  go_enter Try.func38, Try.ntmps38
  go_wp2_with fail
  go_quiet (fail)
  go_wp2
  go_ret
  exact ⟨rfl, ⟨rfl, rfl, rfl, Nat.le_refl _, fun _ _ => rfl⟩⟩
set_option maxHeartbeats 400000 in
theorem strips2_any (b off len cap B : Nat) (n x : Int) (i : Nat) (w : World) (hi : i < len) (h0 : w.cell? ⟨B, 0, none⟩ = some (.slice (some ⟨b, off, none⟩) len cap)) (h1 : w.cell? ⟨B + 1, 0, none⟩ = some (iv n)) (hx : w.cell? ⟨b, off + i, none⟩ = some (iv x)) :
    Calls Try.prog 39 (#[iv i] ++ #[.pointer (some ⟨B, 0, none⟩), .pointer (some ⟨B + 1, 0, none⟩)]) w (Ret (.bool (decide (n < x))) w) := by
  show Calls Try.prog 39 #[iv i, .pointer (some ⟨B, 0, none⟩), .pointer (some ⟨B + 1, 0, none⟩)] w _
  go_enter Try.func39, Try.ntmps39
  go_wp2_with fail
  go_quiet (fail)
  go_wp2
  go_ret
  exact ⟨rfl, ⟨rfl, rfl, rfl, Nat.le_refl _, fun _ _ => rfl⟩⟩

/-- first over a row of numbers, by a closure that reads it from two boxes. -/
theorem first_row (F : Nat) (p : Int → Bool) (a : Option Addr) (len cap B r : Nat) (l : List Int) (w : World) (hp : IntsAt w (.slice a len cap) l) (hlen : l.length = len) (hn : len ≤ 1000000000) (hr : r ≤ len)
    (h1 : ∀ i, i < r → p (l.getD i 0) = false) (h2 : ∀ i, r ≤ i → i < len → p (l.getD i 0) = true)
    (hF : ∀ args w, Sem.run Try.prog (callFunc F args) w = .ok (.enter F args) w)
    (hc : ∀ (b off : Nat) (x : Int) (i : Nat) (w' : World), Grows w w' → a = some ⟨b, off, none⟩ → i < len → w'.cell? ⟨b, off + i, none⟩ = some (iv x) → Calls Try.prog F (#[iv i] ++ #[.pointer (some ⟨B, 0, none⟩), .pointer (some ⟨B + 1, 0, none⟩)]) w' (Ret (.bool (p x)) w')) :
    Calls Try.prog 36 #[iv len, .func (.func F) #[] #[.pointer (some ⟨B, 0, none⟩), .pointer (some ⟨B + 1, 0, none⟩)]] w (Ret (iv r) w) := by
  refine first_any F _ (fun i => p (l.getD i 0)) len r w hn hr h1 h2 hF fun w' hg i hi => ?_
  obtain ⟨b, off, ha, _, hcell⟩ := (hp.grows hg).at_ (i := i) (by omega)
  exact hc b off _ i w' hg ha hi hcell
end Go.Proofs.Ytigbojdnaeaojaa
