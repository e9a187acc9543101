/-
  Layer 7: what was told is read as it was; a number cut short.
-/
import Derived.Test.YtdiciboaehdckaaV11
import Derived.Test.YtdiciboaehdckaaV4
namespace Go.Proofs.Ytdiciboaehdckaa
open Go.RowKit Go.Tab

theorem lead_enc (n : Nat) : ∀ r, lead (enc n ++ r) + 1 = (enc n).length := by
  induction n using Nat.strongRecOn with
  | _ n ih =>
    intro r
    by_cases hn : n < 128
    · rw [enc_lt hn]
      show lead (n :: r) + 1 = 1
      rw [lead, if_neg (by omega)]
    · rw [enc_ge hn]
      show lead ((128 + n % 128) :: (enc (n / 128) ++ r)) + 1 = _
      rw [lead, if_pos (by omega), ih (n / 128) (by omega) r, List.length_cons]

theorem val_enc (n : Nat) : val (enc n) = n := by
  induction n using Nat.strongRecOn with
  | _ n ih =>
    by_cases hn : n < 128
    · rw [enc_lt hn]; simp only [val]; omega
    · rw [enc_ge hn, val, ih (n / 128) (by omega)]; omega

theorem last_enc (n : Nat) : ∀ r, 0 < lead (enc n ++ r) → ¬ (enc n ++ r).getD (lead (enc n ++ r)) 0 = 0 := by
  induction n using Nat.strongRecOn with
  | _ n ih =>
    intro r h
    by_cases hn : n < 128
    · rw [enc_lt hn] at h
      have : lead (n :: r) = 0 := by rw [lead, if_neg (by omega)]
      have h' : 0 < lead (n :: r) := h
      omega
    · rw [enc_ge hn]
      show ¬ ((128 + n % 128) :: (enc (n / 128) ++ r)).getD (lead ((128 + n % 128) :: (enc (n / 128) ++ r))) 0 = 0
      rw [lead, if_pos (by omega), List.getD_cons_succ]
      by_cases h0 : 0 < lead (enc (n / 128) ++ r)
      · exact ih (n / 128) (by omega) r h0
      · have h1 : lead (enc (n / 128) ++ r) = 0 := by omega
        rw [h1]
        have h2 := lead_enc (n / 128) r
        rw [h1] at h2
        by_cases h3 : n / 128 < 128
        · rw [enc_lt h3]
          show ¬ n / 128 = 0
          omega
        · rw [enc_ge h3] at h2
          have := enc_pos (n / 128 / 128)
          simp only [List.length_cons] at h2
          omega

theorem enc_ninth (k : Nat) : ∀ n, n < 2 * 128 ^ k → k < (enc n).length → (enc n).getD k 0 ≤ 1 ∨ (enc n).length ≠ k + 1 := by
  induction k with
  | zero =>
    intro n hn hk
    left
    rw [enc_lt (by simpa using (by omega : n < 128))]
    show n ≤ 1
    omega
  | succ k ih =>
    intro n hn hk
    by_cases h : n < 128
    · rw [enc_lt h] at hk; simp at hk
    · rw [enc_ge h] at hk ⊢
      rw [List.getD_cons_succ, List.length_cons]
      rw [List.length_cons] at hk
      have := ih (n / 128) (by rw [Nat.pow_succ] at hn; omega) (by omega)
      omega

theorem getD_append_left (a r : List Nat) (k : Nat) (h : k < a.length) : (a ++ r).getD k 0 = a.getD k 0 := by
  rw [List.getD_eq_getElem?_getD, List.getD_eq_getElem?_getD, List.getElem?_append_left h]

theorem rd_of_enc (n : Nat) (r : List Nat) (hn : n < 18446744073709551616) : rd (enc n ++ r) = (n, (enc n).length, 0) := by
  have h1 := lead_enc n r
  have h2 := enc_len10 hn
  have h3 : (enc n ++ r).length = (enc n).length + r.length := by simp
  have h4 := last_enc n r
  rw [rd_ok (by omega) (by omega) ?_ (by omega), h1]
  · rw [List.take_left' rfl, val_enc]
  · rintro ⟨h5, h6⟩
    rw [getD_append_left _ _ _ (by omega)] at h6
    have := enc_ninth 9 n (by omega) (by omega)
    omega

theorem rowsFrom_encs (L l : List Nat) : ∀ (m f p : Nat) (acc : List Nat), m = l.length → (∀ x ∈ l, x < 18446744073709551616) → p ≤ L.length → L.length - p ≤ f → L.drop p = encs l → rowsFrom L f p acc = (acc ++ l, 0, 0) := by
  induction l with
  | nil =>
    intro m f p acc _ _ hp hf hd
    have : L.length - p = 0 := by rw [← List.length_drop, hd]; rfl
    rw [rowsFrom_done (by omega), List.append_nil]
  | cons x l ih =>
    intro m f p acc _ hx hp hf hd
    have hd' : L.drop p = enc x ++ encs l := hd
    have hr := rd_of_enc x (encs l) (hx x List.mem_cons_self)
    have hpos := enc_pos x
    have hlen : L.length - p = (enc x).length + (encs l).length := by rw [← List.length_drop, hd', List.length_append]
    obtain ⟨g, hg, he⟩ := rowsFrom_ok (l := L) (f := f) (p := p) (acc := acc) (by omega) hf (by rw [hd', hr])
    rw [he]
    rw [hd', hr] at hg ⊢
    simp only at hg ⊢
    rw [ih l.length g (p + (enc x).length) (acc ++ [x]) rfl (fun y hy => hx y (List.mem_cons_of_mem _ hy)) (by omega) hg (by rw [← List.drop_drop, hd', List.drop_left' rfl]), List.append_assoc]
    rfl

theorem rows_encs (l : List Nat) (hx : ∀ x ∈ l, x < 18446744073709551616) : rows (encs l) = (l, 0, 0) :=
  rowsFrom_encs (encs l) l l.length _ 0 [] rfl hx (Nat.zero_le _) (by omega) rfl

theorem lead_take_enc (n : Nat) : ∀ k, k < (enc n).length → lead ((enc n).take k) = k := by
  induction n using Nat.strongRecOn with
  | _ n ih =>
    intro k hk
    cases k with
    | zero => rfl
    | succ k =>
      by_cases hn : n < 128
      · rw [enc_lt hn] at hk; simp at hk
      · rw [enc_ge hn] at hk ⊢
        rw [List.take_succ_cons, lead, if_pos (by omega), ih (n / 128) (by omega) k (by simpa using hk)]

theorem rd_cut (n k : Nat) (hn : n < 18446744073709551616) (hk : k < (enc n).length) : rd ((enc n).take k) = (0, 0, 4) := by
  have h1 := lead_take_enc n k hk
  have h2 := enc_len10 hn
  have h3 : ((enc n).take k).length = k := by rw [List.length_take]; omega
  exact rd_end (by omega) (by omega)

theorem enc_mono (n : Nat) : ∀ m, n ≤ m → (enc n).length ≤ (enc m).length := by
  induction n using Nat.strongRecOn with
  | _ n ih =>
    intro m h
    by_cases hn : n < 128
    · rw [enc_lt hn]; exact enc_pos m
    · rw [enc_ge hn, enc_ge (show ¬ m < 128 by omega), List.length_cons, List.length_cons]
      have := ih (n / 128) (by omega) (m / 128) (by omega)
      omega

theorem encs_append (a b : List Nat) : encs (a ++ b) = encs a ++ encs b := by simp [encs]

theorem zag_zig (n : Int) : zag (zig n) = n := by
  unfold zag zig
  split <;> split <;> omega
theorem zig_zag (u : Int) (h : 0 ≤ u) : zig (zag u) = u := by
  unfold zag zig
  split <;> split <;> omega
theorem zig_range (n : Int) (h1 : -9223372036854775808 ≤ n) (h2 : n ≤ 9223372036854775807) : 0 ≤ zig n ∧ zig n ≤ 18446744073709551615 := by
  unfold zig
  split <;> omega
theorem zag_range (u : Int) (h1 : 0 ≤ u) (h2 : u ≤ 18446744073709551615) : -9223372036854775808 ≤ zag u ∧ zag u ≤ 9223372036854775807 := by
  unfold zag
  split <;> omega

theorem rd_lt (l : List Nat) (hx : ∀ x ∈ l, x < 256) : (rd l).1 < 18446744073709551616 := by
  have := lead_le l
  by_cases h1 : 10 ≤ lead l
  · rw [rd_range h1]; exact Nat.zero_lt_succ _
  · by_cases h2 : lead l = l.length
    · rw [rd_end h1 h2]; exact Nat.zero_lt_succ _
    · by_cases h3 : lead l = 9 ∧ 1 < l.getD 9 0
      · rw [rd_nine h1 h2 h3]; exact Nat.zero_lt_succ _
      · by_cases h4 : 0 < lead l ∧ l.getD (lead l) 0 = 0
        · rw [rd_zero h1 h2 h3 h4]; exact Nat.zero_lt_succ _
        · rw [rd_ok h1 h2 h3 h4]
          refine val_lt64 (x := l.getD (lead l) 0) (by omega) (fun h9 => ?_) (by omega) rfl (lead_at l (by omega))
          rw [h9] at h3 ⊢
          omega

theorem rowsFrom_facts (l : List Nat) (hx : ∀ x ∈ l, x < 256) : ∀ (f p : Nat) (acc : List Nat), p ≤ l.length → acc.length ≤ p → (∀ x ∈ acc, x < 18446744073709551616) →
    (rowsFrom l f p acc).1.length ≤ l.length ∧ ∀ x ∈ (rowsFrom l f p acc).1, x < 18446744073709551616
  | 0, p, acc, hp, ha, hb => ⟨by show acc.length ≤ _; omega, hb⟩
  | f + 1, p, acc, hp, ha, hb => by
    unfold rowsFrom
    split
    · exact ⟨by show acc.length ≤ _; omega, hb⟩
    · split
      · rename_i h1 h2
        obtain ⟨h3, h4⟩ := rd_size _ h2
        rw [List.length_drop] at h4
        refine rowsFrom_facts l hx f _ _ (by omega) (by rw [List.length_append, List.length_singleton]; omega) fun x hm => ?_
        rcases List.mem_append.1 hm with h | h
        · exact hb x h
        · rw [List.mem_singleton] at h
          subst h
          exact rd_lt _ fun y hy => hx y (List.mem_of_mem_drop hy)
      · exact ⟨Nat.zero_le _, fun x h => by cases h⟩
theorem rows_facts (l : List Nat) (hx : ∀ x ∈ l, x < 256) : (rows l).1.length ≤ l.length ∧ ∀ x ∈ (rows l).1, x < 18446744073709551616 :=
  rowsFrom_facts l hx _ 0 [] (Nat.zero_le _) (Nat.le_refl _) (fun x h => by cases h)
end Go.Proofs.Ytdiciboaehdckaa
