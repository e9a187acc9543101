/-
  Layer 4: where a number is; what lies between; merging.
-/
import Derived.Test.YtigbojdnaeaojaaO11
import Derived.Test.YtigbojdnaeaojaaO4
import Derived.Test.YtigbojdnaeaojaaO9
namespace Go.Proofs.Ytigbojdnaeaojaa
open Go.RowKit Go.Tab

theorem tw_eq {p : Int → Bool} (l : List Int) : ∀ k, k ≤ l.length → (∀ i, i < k → p (l.getD i 0) = true) → (k < l.length → p (l.getD k 0) = false) → (l.takeWhile p).length = k := by
  induction l with
  | nil => intro k hk _ _; have : k = 0 := by simpa using hk
           subst this; rfl
  | cons x l ih =>
    intro k hk h1 h2
    cases k with
    | zero =>
      have := h2 (by simp)
      simp only [List.getD_cons_zero] at this
      simp [this]
    | succ k =>
      have hx := h1 0 (by omega)
      simp only [List.getD_cons_zero] at hx
      have := ih k (by simpa using hk) (fun i hi => by simpa using h1 (i + 1) (by omega)) (fun h => by simpa using h2 (by simpa using h))
      simp [hx, this]
theorem low_eq {n : Int} {l : List Int} {k : Nat} (hk : k ≤ l.length) (h1 : ∀ i, i < k → l.getD i 0 < n) (h2 : k < l.length → n ≤ l.getD k 0) : lowF n l = k :=
  tw_eq l k hk (fun i hi => decide_eq_true (h1 i hi)) (fun h => decide_eq_false (Int.not_lt.2 (h2 h)))

set_option maxRecDepth 100000 in
set_option maxHeartbeats 1000000 in
theorem rfind_any (v : Value) (l : List Int) (n : Int) (w : World) (hp : IntsAt w v l) :
    Calls Try.prog 21 #[v, iv n] w (Ret (.tuple #[iv (lowF n l), .bool (hasF n l)]) w) := by
  obtain ⟨a, cap, rfl, hc, hz⟩ := hp.shape
  have hle := hp.1
  have AA := Lib.hid (fun w' (hg : Grows w w') => hp.grows hg)
  clear hp hz
  generalize hlen : l.length = len at hc AA hle
  have HL := Lib.hid hlen
  clear hlen
  go_enter Try.func21, Try.ntmps21
  go_wp2
  go_loopw [6] (fun i wr => ∃ k : Nat, i = iv k ∧ k ≤ len ∧ (∀ i, i < k → l.getD i 0 < n) ∧ Grows w wr) (fun i _ => len - (intOf i).toNat)
  case atStart => exact ⟨0, rfl, Nat.zero_le _, fun i h => by omega, Grows.refl _⟩
  case round =>
    obtain ⟨k, rfl, hk, hb, hg⟩ := hrel
    have HB := Lib.hid hb
    have G := Lib.hid hg
    clear hb hg
    by_cases hlt : k < len
    · obtain ⟨b, off, rfl, hbb, _⟩ := (AA.out _ (Grows.refl w)).at_ (i := k) (by rw [HL.out]; exact hlt)
      have c1 := (AA.out _ G.out).at_cell (i := k) (by rw [HL.out]; exact hlt)
      by_cases hx : n ≤ l.getD k 0
      · have HK : Hid (lowF n l = k) := Lib.hid (low_eq (by rw [HL.out]; exact hk) HB.out (fun _ => hx))
        have HQ : Hid (hasF n l = (l.getD k 0 == n)) := Lib.hid (by rw [hasF_true (by rw [HK.out, HL.out]; exact hlt), HK.out])
        rw [HK.out, HQ.out]
        clear HB HQ
        generalize l.getD k 0 = x at c1 hx
        go_wp2_with fail
        go_quiet (fail)
        go_wp2
        go_ret2
        exact ⟨rfl, G.out.trans ⟨rfl, rfl, rfl, Nat.le_refl _, fun _ _ => rfl⟩⟩
      · have HB2 : Hid (∀ i, i < k + 1 → l.getD i 0 < n) := Lib.hid fun i hi => by
          by_cases he : i = k
          · subst he; omega
          · exact HB.out i (by omega)
        clear HB
        generalize l.getD k 0 = x at c1 hx
        go_wp2
        refine ⟨⟨k + 1, by simp, by omega, HB2.out, G.out⟩, by simp only [intOf]; omega⟩
    · have hke : k = len := by omega
      subst hke
      have HK : Hid (lowF n l = k) := Lib.hid (low_eq (by rw [HL.out]; exact hk) HB.out (fun h => by rw [HL.out] at h; omega))
      have HQ : Hid (hasF n l = false) := Lib.hid (hasF_false (by rw [HK.out, HL.out]; omega))
      clear HB
      go_wp2
      go_ret2
      refine ⟨?_, G.out⟩
      rw [HK.out, HQ.out]
      rfl

def betB (a b x : Int) : Bool := (decide (a < x) && decide (x < b)) || (decide (b < x) && decide (x < a))
set_option maxRecDepth 100000 in
set_option maxHeartbeats 1000000 in
theorem rapart_any (v : Value) (l : List Int) (p q : Int) (w : World) (hp : IntsAt w v l) :
    Calls Try.prog 25 #[v, iv p, iv q] w (Ret (.bool (l.any (betB p q))) w) := by
  obtain ⟨a, cap, rfl, hc, hz⟩ := hp.shape
  have hle := hp.1
  have AA := Lib.hid (fun w' (hg : Grows w w') => hp.grows hg)
  clear hp hz
  generalize hlen : l.length = len at hc AA hle
  have HL := Lib.hid hlen
  clear hlen
  go_enter Try.func25, Try.ntmps25
  go_wp2
  go_loopw [7] (fun i wr => ∃ k : Nat, i = iv k ∧ k ≤ len ∧ (l.take k).any (betB p q) = false ∧ Grows w wr) (fun i _ => len - (intOf i).toNat)
  case atStart => exact ⟨0, rfl, Nat.zero_le _, rfl, Grows.refl _⟩
  case round =>
    obtain ⟨k, rfl, hk, hb, hg⟩ := hrel
    have HB := Lib.hid hb
    have G := Lib.hid hg
    clear hb hg
    by_cases hlt : k < len
    · obtain ⟨b, off, rfl, hbb, _⟩ := (AA.out _ (Grows.refl w)).at_ (i := k) (by rw [HL.out]; exact hlt)
      have c1 := (AA.out _ G.out).at_cell (i := k) (by rw [HL.out]; exact hlt)
      have hmem : l.getD k 0 ∈ l := by rw [List.getD_eq_getElem?_getD, List.getElem?_eq_getElem (by rw [HL.out]; exact hlt)]; exact List.getElem_mem _
      have HS : Hid ((l.take (k + 1)).any (betB p q) = ((l.take k).any (betB p q) || betB p q (l.getD k 0))) := Lib.hid (by
        rw [List.take_succ_eq_append_getElem (by rw [HL.out]; exact hlt), List.any_append]
        simp [List.getD_eq_getElem?_getD, HL.out, hlt])
      have HT : Hid (betB p q (l.getD k 0) = true → l.any (betB p q) = true) := Lib.hid fun h => List.any_eq_true.2 ⟨_, hmem, h⟩
      have HB2 := HB
      generalize l.getD k 0 = x at c1 HS HT
      clear hmem
      by_cases hx : betB p q x = true
      · rw [HT.out hx]
        clear HS HT
        unfold betB at hx
        simp only [Bool.or_eq_true, Bool.and_eq_true, decide_eq_true_eq] at hx
        rcases hx with ⟨h1, h2⟩ | ⟨h1, h2⟩
        · go_wp2
          go_ret
          exact ⟨rfl, G.out⟩
        · have h3 : ¬ p < x := by omega
          go_wp2
          go_ret
          exact ⟨rfl, G.out⟩
      · have HN : Hid ((l.take (k + 1)).any (betB p q) = false) := Lib.hid (by rw [HS.out, HB.out]; simpa using hx)
        clear HS HT
        unfold betB at hx
        simp only [Bool.or_eq_true, Bool.and_eq_true, decide_eq_true_eq, not_or, not_and] at hx
        obtain ⟨h1, h2⟩ := hx
        by_cases h3 : p < x
        · have h4 := h1 h3
          by_cases h5 : q < x
          · have h6 : ¬ x < p := by omega
            clear h1 h2
            go_wp2
            refine ⟨⟨k + 1, by simp, by omega, HN.out, G.out⟩, by simp only [intOf]; omega⟩
          · clear h1 h2
            go_wp2
            refine ⟨⟨k + 1, by simp, by omega, HN.out, G.out⟩, by simp only [intOf]; omega⟩
        · by_cases h5 : q < x
          · have h6 := h2 h5
            clear h1 h2
            go_wp2
            refine ⟨⟨k + 1, by simp, by omega, HN.out, G.out⟩, by simp only [intOf]; omega⟩
          · clear h1 h2
            go_wp2
            refine ⟨⟨k + 1, by simp, by omega, HN.out, G.out⟩, by simp only [intOf]; omega⟩
    · have HN : Hid (l.any (betB p q) = false) := Lib.hid (by have := HB.out; rwa [List.take_of_length_le (by rw [HL.out]; omega)] at this)
      clear HB
      go_wp2
      go_ret
      refine ⟨?_, G.out⟩
      rw [HN.out]
      rfl

set_option maxHeartbeats 400000 in
theorem merge_any (va vb : Value) (a b : List Int) (w : World) (ha : IntsAt w va a) (hb : IntsAt w vb b) (hla : a.length ≤ 1000000) (hlb : b.length ≤ 1000000) :
    Calls Try.prog 23 #[va, vb] w (RetInts (mergeF ltI a b) w) := by
  have HM := Lib.hid (merged_ints 35 #[] ltI a b va vb w ha hb hla hlb (fun _ _ => rfl) (fun w' _ x y _ _ => lesser_any x y w'))
  clear ha hb
  go_enter Try.func23, Try.ntmps23
  go_wp2_with fail
  refine HM.out.mono ?_
  rintro _ w1 ⟨v, rfl, hv, hg⟩
  have V := Lib.hid hv
  have G := Lib.hid hg
  clear hv hg
  go_wp2
  go_ret
  exact ⟨v, rfl, V.out, G.out⟩
end Go.Proofs.Ytigbojdnaeaojaa
