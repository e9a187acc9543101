/-
  Layer 1: quotients.
-/
import Derived.Test.YtlgplhanhnjeiaaE1
import Derived.ScopeJumps
namespace Go.Proofs.Ytlgplhanhnjeiaa
open Go.RowKit Go.Tab

def divB (n d : Int) : Bool := decide (1 ≤ d ∧ d ≤ 1152921504606846976 ∧ -1152921504606846976 ≤ n ∧ n ≤ 1152921504606846976)
theorem divB_iff {n d : Int} : divB n d = true ↔ (1 ≤ d ∧ d ≤ 1152921504606846976 ∧ -1152921504606846976 ≤ n ∧ n ≤ 1152921504606846976) := by simp [divB]

set_option maxHeartbeats 400000 in
theorem dividable_any (n d : Int) (w : World) : Calls Try.prog 39 #[.int .i64 n, .int .i64 d] w (Ret (.bool (divB n d)) w) := by
  go_enter Try.func39, Try.ntmps39
  go_wp2
  all_goals
    go_ret
    exact ⟨ret_bool (by unfold divB; rw [Bool.eq_iff_iff]; simp; try omega), Grows.refl _⟩

theorem tdiv_floor (n d : Int) (hd : 1 ≤ d) : n / d = if n.tmod d < 0 then n.tdiv d - 1 else n.tdiv d := by
  have h1 := Int.mul_tdiv_add_tmod n d
  have h2 := Int.mul_ediv_add_emod n d
  have h3 := Int.emod_nonneg n (show d ≠ 0 by omega)
  have h4 := Int.emod_lt_of_pos n (show 0 < d by omega)
  have h5 : n.tmod d < d := Int.tmod_lt_of_pos n (by omega)
  have h6 : -d < n.tmod d := by
    rcases Int.le_total 0 n with h | h
    · have := Int.tmod_nonneg d h; omega
    · obtain ⟨m, rfl⟩ : ∃ m, n = -m := ⟨-n, by omega⟩
      rw [Int.neg_tmod]
      have := Int.tmod_lt_of_pos m (show 0 < d by omega)
      omega
  generalize n / d = q at *
  generalize n % d = r at *
  generalize n.tdiv d = t at *
  generalize n.tmod d = s at *
  split
  · have : d * (q - (t - 1)) = s + d - r := by rw [Int.mul_sub, Int.mul_sub]; omega
    have hlt : d * (q - (t - 1)) < d * 1 := by omega
    have hgt : d * (-1) < d * (q - (t - 1)) := by omega
    have := Int.lt_of_mul_lt_mul_left hlt (by omega)
    have := Int.lt_of_mul_lt_mul_left hgt (by omega)
    omega
  · have : d * (q - t) = s - r := by rw [Int.mul_sub]; omega
    have hlt : d * (q - t) < d * 1 := by omega
    have hgt : d * (-1) < d * (q - t) := by omega
    have := Int.lt_of_mul_lt_mul_left hlt (by omega)
    have := Int.lt_of_mul_lt_mul_left hgt (by omega)
    omega
theorem tdiv_bd (n d B : Int) (hd : 1 ≤ d) (h1 : -B ≤ n) (h2 : n ≤ B) : -B ≤ n.tdiv d ∧ n.tdiv d ≤ B := by
  rcases Int.le_total 0 n with h | h
  · rw [Int.tdiv_eq_ediv_of_nonneg h]
    have := Int.ediv_nonneg h (show 0 ≤ d by omega)
    have := Int.ediv_le_self d h
    omega
  · obtain ⟨m, rfl⟩ : ∃ m, n = -m := ⟨-n, by omega⟩
    rw [Int.neg_tdiv, Int.tdiv_eq_ediv_of_nonneg (by omega)]
    have := Int.ediv_nonneg (show 0 ≤ m by omega) (show 0 ≤ d by omega)
    have := Int.ediv_le_self d (show 0 ≤ m by omega)
    omega

set_option maxHeartbeats 400000 in
theorem floor_any (n d : Int) (w : World) (hd : 1 ≤ d) (hd2 : d ≤ 4611686018427387904) (h1 : -4611686018427387904 ≤ n) (h2 : n ≤ 4611686018427387904) :
    Calls Try.prog 40 #[.int .i64 n, .int .i64 d] w (Ret (.int .i64 (n / d)) w) := by
  have Hf := Lib.hid (tdiv_floor n d hd)
  obtain ⟨b1, b2⟩ := tdiv_bd n d 4611686018427387904 hd h1 h2
  generalize n / d = q at Hf ⊢
  by_cases hneg : n.tmod d < 0
  · go_enter Try.func40, Try.ntmps40
    go_wp2
    refine wp_scope_jumps 0 (fun a' w' => w' = w ∧ ∃ u6 u7 u8 u9 u10 u11 u12 u13 u14 u15 : Value, a' = { tmps := #[.int .i64 n, .int .i64 d, undef, undef, .int .i64 0, .int .i64 (n.tdiv d), u6, u7, u8, u9, u10, u11, u12, u13, u14, u15], defers := [] }) (fun _ _ => 0) rfl ?_ ?_
    · go_wp2
      go_step3
      exact ⟨rfl, rfl, _, _, _, _, _, _, _, _, _, _, rfl⟩
    · rintro a' w' ⟨rfl, u6, u7, u8, u9, u10, u11, u12, u13, u14, u15, rfl⟩
      go_wp2
      simp only [Exit.jump]
      go_ret
      exact ⟨ret_int (by rw [Hf.out]; split <;> omega), Grows.refl _⟩
  · go_enter Try.func40, Try.ntmps40
    go_wp2
    go_step3
    go_wp2
    rw [Exit.noGoto_ret]
    go_ret
    exact ⟨ret_int (by rw [Hf.out]; split <;> omega), Grows.refl _⟩

abbrev pair (n : Int) (b : Bool) : Value := .tuple #[.int .i64 n, .bool b]

set_option maxHeartbeats 400000 in
theorem Round_yes (n d : Int) (w : World) (h : divB n d = true) : Calls Try.prog 27 #[.int .i64 n, .int .i64 d] w (Ret (pair ((2 * n + d) / (2 * d)) true) w) := by
  have Hd := Lib.hid (dividable_any n d)
  rw [h] at Hd
  obtain ⟨a1, a2, a3, a4⟩ := divB_iff.1 h
  clear h
  go_enter Try.func27, Try.ntmps27
  go_wp2_with fail
  refine (Hd.out _).mono ?_
  rintro e w1 ⟨rfl, hg⟩
  have Hg := Lib.hid hg
  clear hg
  go_wp2_with fail
  refine (floor_any (2 * n + d) (2 * d) _ (by omega) (by omega) (by omega) (by omega)).mono ?_
  rintro e w2 ⟨rfl, hg⟩
  have Hg2 := Lib.hid hg
  clear hg
  go_wp2
  go_ret2
  exact ⟨rfl, Hg.out.trans Hg2.out⟩
set_option maxHeartbeats 400000 in
theorem Round_no (n d : Int) (w : World) (h : divB n d = false) : Calls Try.prog 27 #[.int .i64 n, .int .i64 d] w (Ret (pair 0 false) w) := by
  have Hd := Lib.hid (dividable_any n d)
  rw [h] at Hd
  clear h
  go_enter Try.func27, Try.ntmps27
  go_wp2_with fail
  refine (Hd.out _).mono ?_
  rintro e w1 ⟨rfl, hg⟩
  have Hg := Lib.hid hg
  clear hg
  go_wp2
  go_ret2
  exact ⟨rfl, Hg.out⟩

def floorP (n d : Int) : Int := if divB n d = true then n / d else 0
def roundP (n d : Int) : Int := if divB n d = true then (2 * n + d) / (2 * d) else 0
theorem Round_any (n d : Int) (w : World) : Calls Try.prog 27 #[.int .i64 n, .int .i64 d] w (Ret (pair (roundP n d) (divB n d)) w) := by
  unfold roundP
  cases h : divB n d with
  | true => exact Round_yes n d w h
  | false => exact Round_no n d w h

theorem left_floor (n d : Int) (hd : 1 ≤ d) : n - (if n.tmod d < 0 then n.tmod d + d else n.tmod d) = d * (n / d) := by
  have h1 := Int.mul_tdiv_add_tmod n d
  have h2 := tdiv_floor n d hd
  rw [h2]
  split
  · rw [Int.mul_sub]; omega
  · omega
theorem tmod_bd (n d : Int) (hd : 1 ≤ d) : -d < n.tmod d ∧ n.tmod d < d := by
  refine ⟨?_, Int.tmod_lt_of_pos n (by omega)⟩
  rcases Int.le_total 0 n with h | h
  · have := Int.tmod_nonneg d h; omega
  · obtain ⟨m, rfl⟩ : ∃ m, n = -m := ⟨-n, by omega⟩
    rw [Int.neg_tmod]
    have := Int.tmod_lt_of_pos m (show 0 < d by omega)
    omega
theorem ediv_bd (n d B : Int) (hd : 1 ≤ d) (h1 : -B ≤ n) (h2 : n ≤ B) : -B ≤ n / d ∧ n / d ≤ B := by
  constructor
  · rw [Int.le_ediv_iff_mul_le (by omega)]
    have : 0 ≤ B := by omega
    have := Int.mul_le_mul_of_nonneg_left hd this
    rw [Int.neg_mul]; omega
  · have := Int.ediv_le_of_le_mul (a := n) (b := B) (c := d) (by omega) (by
      have : 0 ≤ B := by omega
      have := Int.mul_le_mul_of_nonneg_left hd this
      omega)
    exact this

set_option maxHeartbeats 400000 in
theorem rfloor_any (n d : Int) (w : World) (h : divB n d = true) : Calls Try.prog 43 #[.int .i64 n, .int .i64 d] w (Ret (.int .i64 (n / d)) w) := by
  obtain ⟨a1, a2, a3, a4⟩ := divB_iff.1 h
  have hl := left_floor n d a1
  obtain ⟨m1, m2⟩ := tmod_bd n d a1
  have hq : (d * (n / d)).tdiv d = n / d := Int.mul_tdiv_cancel_left _ (by omega)
  obtain ⟨e1, e2⟩ := ediv_bd n d 1152921504606846976 a1 a3 a4
  obtain ⟨q1, q2⟩ := tdiv_bd (d * (n / d)) d 4611686018427387904 a1 (by rw [← hl]; split <;> omega) (by rw [← hl]; split <;> omega)
  have Hl := Lib.hid hl
  have Hq := Lib.hid hq
  clear hl hq h
  by_cases hneg : n.tmod d < 0
  · have hl2 : n - (n.tmod d + d) = d * (n / d) := by have := Hl.out; rwa [if_pos hneg] at this
    rw [← hl2] at q1 q2 Hq
    clear hl2
    go_enter Try.func43, Try.ntmps43
    go_wp2
    go_ret
    exact ⟨ret_int (by rw [Hq.out]), Grows.refl _⟩
  · have hl2 : n - n.tmod d = d * (n / d) := by have := Hl.out; rwa [if_neg hneg] at this
    rw [← hl2] at q1 q2 Hq
    clear hl2
    go_enter Try.func43, Try.ntmps43
    go_wp2
    go_ret
    exact ⟨ret_int (by rw [Hq.out]), Grows.refl _⟩

theorem ediv_of {x k q : Int} (hk : 0 < k) (h1 : k * q ≤ x) (h2 : x < k * q + k) : x / k = q := by
  have a := (Int.le_ediv_iff_mul_le hk).2 (show q * k ≤ x by rw [Int.mul_comm]; exact h1)
  have b := (Int.ediv_lt_iff_lt_mul hk).2 (show x < (q + 1) * k by rw [Int.add_mul, Int.mul_comm q]; omega)
  omega
theorem round_eq (n d : Int) (hd : 1 ≤ d) : (2 * n + d) / (2 * d) = if d ≤ 2 * (n - n / d * d) then n / d + 1 else n / d := by
  have h2 := Int.mul_ediv_add_emod n d
  have h3 := Int.emod_nonneg n (show d ≠ 0 by omega)
  have h4 := Int.emod_lt_of_pos n (show 0 < d by omega)
  have hc : n / d * d = d * (n / d) := Int.mul_comm _ _
  rw [hc]
  generalize n / d = q at *
  generalize n % d = r at *
  split
  · refine ediv_of (by omega) ?_ ?_ <;> rw [Int.mul_assoc, Int.mul_add] <;> omega
  · refine ediv_of (by omega) ?_ ?_ <;> rw [Int.mul_assoc] <;> omega

set_option maxHeartbeats 400000 in
theorem rround_any (n d : Int) (w : World) (h : divB n d = true) : Calls Try.prog 32 #[.int .i64 n, .int .i64 d] w (Ret (.int .i64 ((2 * n + d) / (2 * d))) w) := by
  have Hf := Lib.hid (fun w => rfloor_any n d w h)
  obtain ⟨a1, a2, a3, a4⟩ := divB_iff.1 h
  have Hr := Lib.hid (round_eq n d a1)
  obtain ⟨e1, e2⟩ := ediv_bd n d 1152921504606846976 a1 a3 a4
  have h2 := Int.mul_ediv_add_emod n d
  have h3 := Int.emod_nonneg n (show d ≠ 0 by omega)
  have h4 := Int.emod_lt_of_pos n (show 0 < d by omega)
  have hc : n / d * d = d * (n / d) := Int.mul_comm _ _
  have b1 : -1152921504606846976 ≤ n - n / d * d := by omega
  have b2 : n - n / d * d ≤ 1152921504606846976 := by omega
  have b3 : -4611686018427387904 ≤ n / d * d := by omega
  have b4 : n / d * d ≤ 4611686018427387904 := by omega
  clear h h2 h3 h4 hc
  generalize (2 * n + d) / (2 * d) = res at Hr ⊢
  generalize n / d = q at *
  go_enter Try.func32, Try.ntmps32
  go_wp2_with fail
  refine (Hf.out _).mono ?_
  rintro e w1 ⟨rfl, hg⟩
  have Hg := Lib.hid hg
  clear hg
  go_wp2
  all_goals
    go_ret
    exact ⟨ret_int (by
      rw [Hr.out]
      first
        | (split <;> omega)
        | (have h := ‹_ ∨ (_ == _) = true›; rw [beq_iff_eq] at h; split <;> omega)
        | (have h := ‹_ ∧ (_ == _) = false›; rw [beq_eq_false_iff_ne] at h; split <;> omega)), Hg.out⟩

def powI (s : Nat) : Int := 2 ^ s
theorem powI_succ (k : Nat) : powI (k + 1) = 2 * powI k := by unfold powI; rw [Int.pow_succ, Int.mul_comm]
theorem powI_bd (k : Nat) (h : k ≤ 21) : 1 ≤ powI k ∧ powI k ≤ 2097152 := by
  unfold powI
  have : k < 22 := by omega
  revert this
  revert k
  decide
def mayS (v s : Int) : Bool := decide (0 ≤ s ∧ s ≤ 20 ∧ -16777216 ≤ v ∧ v ≤ 16777216)
theorem mayS_iff {v s : Int} : mayS v s = true ↔ (0 ≤ s ∧ s ≤ 20 ∧ -16777216 ≤ v ∧ v ≤ 16777216) := by simp [mayS]
def shiftP (v s : Int) : Int := if mayS v s = true then (2 * v + powI s.toNat) / (2 * powI s.toNat) else 0
end Go.Proofs.Ytlgplhanhnjeiaa
