/-
  Layer 7: the number that bytes begin with: the program's reckoning.
-/
import Derived.Test.YtdiciboaehdckaaV1
import Derived.ScopeJumps
namespace Go.Proofs.Ytdiciboaehdckaa
open Go.RowKit Go.Tab

/-- How many bytes from the front are 128 or more. -/
def lead : List Nat → Nat
  | [] => 0
  | b :: l => if 128 ≤ b then lead l + 1 else 0
theorem lead_le (l : List Nat) : lead l ≤ l.length := by
  induction l with
  | nil => simp [lead]
  | cons b l ih => unfold lead; split <;> simp <;> omega
theorem lead_before (l : List Nat) : ∀ i, i < lead l → 128 ≤ l.getD i 0 := by
  induction l with
  | nil => intro i h; simp [lead] at h
  | cons b l ih =>
    intro i h
    unfold lead at h
    split at h
    · cases i with
      | zero => simpa
      | succ i => simpa using ih i (by omega)
    · omega
theorem lead_at (l : List Nat) (h : lead l < l.length) : l.getD (lead l) 0 < 128 := by
  induction l with
  | nil => simp at h
  | cons b l ih =>
    by_cases hb : 128 ≤ b
    · have e : lead (b :: l) = lead l + 1 := by rw [lead, if_pos hb]
      rw [e] at h ⊢
      simpa using ih (by simpa using h)
    · have e : lead (b :: l) = 0 := by rw [lead, if_neg hb]
      rw [e]; simp; omega
/-- The number that bytes make, seven bits each. -/
def val : List Nat → Nat
  | [] => 0
  | b :: l => b % 128 + 128 * val l
theorem val_snoc (l : List Nat) (b : Nat) : val (l ++ [b]) = val l + b % 128 * 128 ^ l.length := by
  induction l with
  | nil => simp [val]
  | cons a l ih => simp only [List.cons_append, val, ih, List.length_cons, Nat.pow_succ]; grind
theorem val_lt (l : List Nat) : val l < 128 ^ l.length := by
  induction l with
  | nil => simp [val]
  | cons a l ih => simp only [val, List.length_cons, Nat.pow_succ]; omega
theorem val_take (l : List Nat) (k : Nat) (h : k < l.length) : val (l.take (k + 1)) = val (l.take k) + l.getD k 0 % 128 * 128 ^ k := by
  rw [List.take_succ_eq_append_getElem h, val_snoc, List.length_take, Nat.min_eq_left (Nat.le_of_lt h)]
  simp [h]

/-- What is read: the number, how many bytes it has, the error. -/
def rd (l : List Nat) : Nat × Nat × Nat :=
  if 10 ≤ lead l then (0, 0, 5)
  else if lead l = l.length then (0, 0, 4)
  else if lead l = 9 ∧ 1 < l.getD 9 0 then (0, 0, 5)
  else if 0 < lead l ∧ l.getD (lead l) 0 = 0 then (0, 0, 3)
  else (val (l.take (lead l + 1)), lead l + 1, 0)

theorem or_shift (n m p : Nat) (hn : n < 2 ^ p) : n ||| (m * 2 ^ p) = n + m * 2 ^ p := by
  have := Nat.shiftLeft_add_eq_or_of_lt hn m
  rw [Nat.shiftLeft_eq] at this
  rw [Nat.or_comm, ← this, Nat.add_comm]

abbrev rdv (q : Nat × Nat × Nat) : Value := .tuple #[.int .u64 q.1, .int .i64 q.2.1, .int .i64 q.2.2]

theorem or_gen (acc m p : Nat) (h : acc < 2 ^ p) (h2 : acc + m * 2 ^ p < 18446744073709551616) : bits .or .u64 (acc : Int) (IntKind.u64.wrap ((m : Int) * 2 ^ p)) = ((acc + m * 2 ^ p : Nat) : Int) := by
  have e : ((m : Int) * 2 ^ p) = ((m * 2 ^ p : Nat) : Int) := by rw [Int.natCast_mul, Int.natCast_pow]; rfl
  rw [e]
  generalize hq : m * 2 ^ p = q at h2 ⊢
  rw [IntWalk.u64_in _ (by omega)]
  show IntKind.u64.wrap ((BitVec.ofInt 64 (acc : Int) ||| BitVec.ofInt 64 (q : Int)).toNat : Int) = _
  have b1 : (BitVec.ofInt 64 (acc : Int)).toNat = acc := by rw [BitVec.toNat_ofInt]; omega
  have b2 : (BitVec.ofInt 64 (q : Int)).toNat = q := by rw [BitVec.toNat_ofInt]; omega
  rw [BitVec.toNat_or, b1, b2, ← hq, or_shift acc m p h, hq, IntWalk.u64_in _ (by omega)]
theorem or_some (a b : Int) : ∃ m : Nat, m < 18446744073709551616 ∧ bits .or .u64 a b = (m : Int) := by
  refine ⟨(IntKind.u64.wrap ((BitVec.ofInt 64 a ||| BitVec.ofInt 64 b).toNat : Int)).toNat, ?_, ?_⟩
  · rw [IntKind.wrap_u64]; omega
  · show IntKind.u64.wrap ((BitVec.ofInt 64 a ||| BitVec.ofInt 64 b).toNat : Int) = _
    rw [IntKind.wrap_u64]; omega
theorem pow7 (k : Nat) : 128 ^ k = 2 ^ (7 * k) := by rw [Nat.pow_mul]
theorem pow_le9 {k : Nat} (h : k ≤ 9) : 2 ^ (7 * k) ≤ 9223372036854775808 := by
  have : 2 ^ (7 * k) ≤ 2 ^ 63 := Nat.pow_le_pow_right (by omega) (by omega)
  exact this
theorem pow_le8 {k : Nat} (h : k ≤ 8) : 2 ^ (7 * k) ≤ 72057594037927936 := by
  have : 2 ^ (7 * k) ≤ 2 ^ 56 := Nat.pow_le_pow_right (by omega) (by omega)
  exact this
/-- One byte more, of which more follow. -/
theorem or_step {l : List Nat} {k x acc : Nat} (hk : k ≤ 8) (hkl : k < l.length) (hx : l.getD k 0 = x) (h1 : 128 ≤ x) (h2 : x < 256) (ha : acc = val (l.take k)) :
    bits .or .u64 (acc : Int) (IntKind.u64.wrap (((x : Int) - 128) * 2 ^ (7 * k))) = ((val (l.take (k + 1)) : Nat) : Int) := by
  have hv := val_lt (l.take k)
  rw [List.length_take, Nat.min_eq_left (Nat.le_of_lt hkl), pow7, ← ha] at hv
  have hp := pow_le8 hk
  have e : (x : Int) - 128 = ((x % 128 : Nat) : Int) := by omega
  have hm : x % 128 * 2 ^ (7 * k) ≤ 127 * 2 ^ (7 * k) := Nat.mul_le_mul_right _ (by omega)
  rw [e, or_gen acc (x % 128) (7 * k) hv (by omega), val_take l k hkl, hx, ha, pow7]
theorem or_last {l : List Nat} {k x acc : Nat} (hk : k ≤ 9) (h9 : k = 9 → x ≤ 1) (hkl : k < l.length) (hx : l.getD k 0 = x) (h1 : x < 128) (ha : acc = val (l.take k)) :
    bits .or .u64 (acc : Int) (IntKind.u64.wrap ((x : Int) * 2 ^ (7 * k))) = ((val (l.take (k + 1)) : Nat) : Int) := by
  have hv := val_lt (l.take k)
  rw [List.length_take, Nat.min_eq_left (Nat.le_of_lt hkl), pow7, ← ha] at hv
  have e : x % 128 = x := by omega
  have hb : acc + x * 2 ^ (7 * k) < 18446744073709551616 := by
    by_cases h : k = 9
    · have hm : x * 2 ^ (7 * k) ≤ 1 * 2 ^ (7 * k) := Nat.mul_le_mul_right _ (h9 h)
      have := pow_le9 hk
      omega
    · have hm : x * 2 ^ (7 * k) ≤ 127 * 2 ^ (7 * k) := Nat.mul_le_mul_right _ (by omega)
      have := pow_le8 (k := k) (by omega)
      omega
  rw [or_gen acc x (7 * k) hv hb, val_take l k hkl, hx, e, ha, pow7]
theorem val_lt64 {l : List Nat} {k x : Nat} (hk : k ≤ 9) (h9 : k = 9 → x ≤ 1) (hkl : k < l.length) (hx : l.getD k 0 = x) (h1 : x < 128) : val (l.take (k + 1)) < 18446744073709551616 := by
  have hv := val_lt (l.take k)
  rw [List.length_take, Nat.min_eq_left (Nat.le_of_lt hkl), pow7] at hv
  rw [val_take l k hkl, hx, pow7, show x % 128 = x by omega]
  by_cases h : k = 9
  · have hm : x * 2 ^ (7 * k) ≤ 1 * 2 ^ (7 * k) := Nat.mul_le_mul_right _ (h9 h)
    have := pow_le9 hk
    omega
  · have hm : x * 2 ^ (7 * k) ≤ 127 * 2 ^ (7 * k) := Nat.mul_le_mul_right _ (by omega)
    have := pow_le8 (k := k) (by omega)
    omega

theorem rd_range {l : List Nat} (h : 10 ≤ lead l) : rd l = (0, 0, 5) := by unfold rd; rw [if_pos h]
theorem rd_end {l : List Nat} (h : ¬ 10 ≤ lead l) (h2 : lead l = l.length) : rd l = (0, 0, 4) := by unfold rd; rw [if_neg h, if_pos h2]
theorem rd_nine {l : List Nat} (h : ¬ 10 ≤ lead l) (h2 : ¬ lead l = l.length) (h3 : lead l = 9 ∧ 1 < l.getD 9 0) : rd l = (0, 0, 5) := by unfold rd; rw [if_neg h, if_neg h2, if_pos h3]
theorem rd_zero {l : List Nat} (h : ¬ 10 ≤ lead l) (h2 : ¬ lead l = l.length) (h3 : ¬ (lead l = 9 ∧ 1 < l.getD 9 0)) (h4 : 0 < lead l ∧ l.getD (lead l) 0 = 0) : rd l = (0, 0, 3) := by unfold rd; rw [if_neg h, if_neg h2, if_neg h3, if_pos h4]
theorem rd_ok {l : List Nat} (h : ¬ 10 ≤ lead l) (h2 : ¬ lead l = l.length) (h3 : ¬ (lead l = 9 ∧ 1 < l.getD 9 0)) (h4 : ¬ (0 < lead l ∧ l.getD (lead l) 0 = 0)) : rd l = (val (l.take (lead l + 1)), lead l + 1, 0) := by unfold rd; rw [if_neg h, if_neg h2, if_neg h3, if_neg h4]

/-- A scope in which the run jumps back to its label, which it also comes to from above: the rounds are walked once. -/
theorem wp_scope_label {P : Program} {c body : Code} {Q : Exit → Act → World → Prop} {a : Act} {w : World} (l : Nat) (J : Act → World → Prop) (μ : Act → World → Nat) (hf : findLabel c l = some (.seq .skip body))
    (first : (∀ a w, J a w → body.wp P (Exit.jump l J Q) a w) → c.wp P (Exit.jump l J Q) a w)
    (pass : ∀ a w, J a w → body.wp P (Exit.jump l (fun a' w' => J a' w' ∧ μ a' w' < μ a w) Q) a w) : (Code.scope c).wp P Q a w := by
  refine wp_scope_jumps l J μ hf (first fun a w hJ => Code.wp_mono (fun e a' w' h => ?_) (pass a w hJ)) (fun a w hJ => wp_seq (wp_skip (pass a w hJ)))
  cases e <;> first | exact h | exact ⟨h.1, h.2.1⟩

set_option maxRecDepth 100000 in
set_option maxHeartbeats 1600000 in
theorem read_some (l : List Nat) (b off n cap : Nat) (w : World) (Hn : Hid (l.length = n)) (hn : n ≤ 17592186044416) (Hx : Hid (∀ x ∈ l, x < 256))
    (hc : ∀ i, i < n → w.cell? ⟨b, off + i, none⟩ = some (.int .u8 (l.getD i 0))) :
    Calls Try.prog 38 #[.slice (some ⟨b, off, none⟩) n cap] w (Ret (rdv (rd l)) w) := by
  go_enter Try.func38, Try.ntmps38
  go_wp2
  refine wp_scope_label 0 (fun a' w' => w' = w ∧ ∃ (k acc : Nat) (u7 u8 u9 u10 u11 u12 u13 u14 u15 u16 u17 u18 u19 u20 u21 u22 u23 u24 u25 u26 u27 u28 u29 u30 u31 u32 u33 u34 u35 u36 u37 u38 u39 u40 u41 u42 u43 u44 u45 u46 u47 u48 u49 u50 u51 u52 u53 u54 u55 u56 u57 u58 u59 u60 : Value), a' = { tmps := #[.slice (some ⟨b, off, none⟩) n cap, undef, .int .u64 0, .int .i64 0, .int .i64 0, .int .u64 acc, .int .i64 k, u7, u8, u9, u10, u11, u12, u13, u14, u15, u16, u17, u18, u19, u20, u21, u22, u23, u24, u25, u26, u27, u28, u29, u30, u31, u32, u33, u34, u35, u36, u37, u38, u39, u40, u41, u42, u43, u44, u45, u46, u47, u48, u49, u50, u51, u52, u53, u54, u55, u56, u57, u58, u59, u60], defers := [] } ∧ k ≤ lead l ∧ k ≤ 10 ∧ acc < 18446744073709551616 ∧ (k ≤ 9 → acc = val (l.take k))) (fun a' _ => 11 - (intOf (a'.tmps.getD 6 undef)).toNat) rfl ?_ ?_
  · intro hbody
    clear hc
    have Hb := Lib.hid hbody
    clear hbody
    go_wp2
    go_step3
    refine (‹∀ (a : Act) (w : World), Code.wp _ _ _ a w → _›) _ _ (Hb.out _ _ ⟨rfl, 0, 0, _, _, _, _, _, _, _, _, _, _, _, _, _, _, _, _, _, _, _, _, _, _, _, _, _, _, _, _, _, _, _, _, _, _, _, _, _, _, _, _, _, _, _, _, _, _, _, _, _, _, _, _, _, _, rfl, Nat.zero_le _, by omega, by omega, fun _ => by simp [val]⟩)
  · rintro a' w' ⟨rfl, k, acc, u7, u8, u9, u10, u11, u12, u13, u14, u15, u16, u17, u18, u19, u20, u21, u22, u23, u24, u25, u26, u27, u28, u29, u30, u31, u32, u33, u34, u35, u36, u37, u38, u39, u40, u41, u42, u43, u44, u45, u46, u47, u48, u49, u50, u51, u52, u53, u54, u55, u56, u57, u58, u59, u60, rfl, hkl, hk10, hacc, hval⟩
    have hle := lead_le l
    rw [Hn.out] at hle
    have Hkl := Lib.hid hkl
    have Hacc := Lib.hid hacc
    have Hval := Lib.hid hval
    have Hle := Lib.hid hle
    clear hkl hacc hval hle
    by_cases h10 : k = 10
    · have b10 : ((k : Int) == 10) = true := by rw [beq_iff_eq]; omega
      have Hr := Lib.hid (rd_range (l := l) (by have := Hkl.out; omega))
      clear hc
      go_wp2
      simp only [Exit.jump]
      go_ret3
      refine ⟨?_, Grows.refl _⟩
      rw [Hr.out]; rfl
    · have b10 : ((k : Int) == 10) = false := by rw [beq_eq_false_iff_ne]; omega
      by_cases hkn : k = n
      · have bn : ((k : Int) == (n : Int)) = true := by rw [beq_iff_eq]; omega
        have Hr := Lib.hid (rd_end (l := l) (by have := Hkl.out; have := Hle.out; omega) (by have := Hkl.out; have := Hle.out; have := Hn.out; omega))
        clear hc
        go_wp2
        simp only [Exit.jump]
        go_ret3
        refine ⟨?_, Grows.refl _⟩
        rw [Hr.out]; rfl
      · have bn : ((k : Int) == (n : Int)) = false := by rw [beq_eq_false_iff_ne]; omega
        have hlt : k < n := by have := Hkl.out; have := Hle.out; omega
        have e1 := hc k hlt
        have hxk : l.getD k 0 < 256 := Hx.out _ (getD_mem l k (by rw [Hn.out]; exact hlt))
        have Hlead := Lib.hid (lead_at l)
        have Hbef := Lib.hid (lead_before l k)
        have Hvt := Lib.hid (val_take l k (by rw [Hn.out]; exact hlt))
        generalize hxe : l.getD k 0 = x at e1 hxk Hbef Hvt
        have Hxe := Lib.hid hxe
        clear hxe hc
        by_cases h128 : 128 ≤ x
        · have hkl2 : k + 1 ≤ lead l := by
            have h1 := Hkl.out
            by_cases hh : lead l = k
            · have := Hlead.out (by rw [hh, Hn.out]; exact hlt)
              rw [hh, Hxe.out] at this; omega
            · omega
          have Hkl2 := Lib.hid hkl2
          have Hor : Hid (∃ m : Nat, m < 18446744073709551616 ∧ bits .or .u64 (acc : Int) (IntKind.u64.wrap (((x : Int) - 128) * 2 ^ (7 * k))) = (m : Int) ∧ (k + 1 ≤ 9 → m = val (l.take (k + 1)))) := by
            obtain ⟨m, hm, he⟩ := or_some (acc : Int) (IntKind.u64.wrap (((x : Int) - 128) * 2 ^ (7 * k)))
            refine ⟨m, hm, he, fun h9 => ?_⟩
            have := or_step (l := l) (k := k) (x := x) (acc := acc) (by omega) (by rw [Hn.out]; exact hlt) Hxe.out h128 hxk (Hval.out (by omega))
            rw [he] at this
            exact Int.ofNat.inj this
          obtain ⟨m, hm, he, hmv⟩ := Hor.out
          have Hm := Lib.hid hm
          have He := Lib.hid he
          have Hmv := Lib.hid hmv
          clear hm he hmv Hor hkl2
          go_wp2
          go_step3
          refine ⟨rfl, ⟨rfl, k + 1, m, _, _, _, _, _, _, _, _, _, _, _, _, _, _, _, _, _, _, _, _, _, _, _, _, _, _, _, _, _, _, _, _, _, _, _, _, _, _, _, _, _, _, _, _, _, _, _, _, _, _, _, _, _, _, by rw [He.out, Int.natCast_add]; rfl, Hkl2.out, by omega, Hm.out, Hmv.out⟩, by simp [intOf]; omega⟩
        · have hlk : lead l = k := by
            have h1 := Hkl.out
            by_cases hh : k < lead l
            · have := Hbef.out hh; omega
            · omega
          have g10 : ¬ 10 ≤ lead l := by omega
          have gn : ¬ lead l = l.length := by rw [hlk, Hn.out]; omega
          by_cases h9 : k = 9 ∧ 1 < x
          · obtain ⟨rfl, hx1⟩ := h9
            have Hr := Lib.hid (rd_nine g10 gn ⟨hlk, by rw [Hxe.out]; exact hx1⟩)
            clear hlk g10 gn
            go_wp2
            simp only [Exit.jump]
            go_ret3
            refine ⟨?_, Grows.refl _⟩
            rw [Hr.out]; rfl
          · have g9 : ¬ (lead l = 9 ∧ 1 < l.getD 9 0) := by
              rintro ⟨a, b⟩; rw [hlk] at a; subst a; rw [Hxe.out] at b; exact h9 ⟨rfl, b⟩
            by_cases h0 : 0 < k ∧ x = 0
            · obtain ⟨hk0, rfl⟩ := h0
              have Hr := Lib.hid (rd_zero g10 gn g9 ⟨by omega, by rw [hlk, Hxe.out]⟩)
              clear hlk g10 gn g9
              have b9 : ((k : Int) == 9) = true ∨ ((k : Int) == 9) = false := by cases ((k : Int) == 9) <;> simp
              rcases b9 with b9 | b9
              all_goals
                go_wp2
                simp only [Exit.jump]
                go_ret3
                refine ⟨?_, Grows.refl _⟩
                rw [Hr.out]; rfl
            · have gz : ¬ (0 < lead l ∧ l.getD (lead l) 0 = 0) := by
                rintro ⟨a, b⟩; rw [hlk, Hxe.out] at b; exact h0 ⟨by omega, b⟩
              have Hr := Lib.hid (rd_ok g10 gn g9 gz)
              rw [hlk] at Hr
              have Ho := Lib.hid (or_last (l := l) (k := k) (x := x) (acc := acc) (by omega) (fun h => by omega) (by rw [Hn.out]; exact hlt) Hxe.out (by omega) (Hval.out (by omega)))
              clear hlk g10 gn g9 gz
              have c9 : (((k : Int) == 9) = true ∧ x ≤ 1) ∨ ((k : Int) == 9) = false := by
                by_cases hh : k = 9
                · left; exact ⟨by rw [beq_iff_eq]; omega, by omega⟩
                · right; rw [beq_eq_false_iff_ne]; omega
              have c0 : (0 < k ∧ ((x : Int) == 0) = false) ∨ k ≤ 0 := by
                by_cases hh : 0 < k
                · left; exact ⟨hh, by rw [beq_eq_false_iff_ne]; omega⟩
                · right; omega
              clear h9 h0
              rcases c9 with ⟨c9, c1⟩ | c9 <;> rcases c0 with ⟨c0, c2⟩ | c0
              all_goals
                go_wp2
                simp only [Exit.jump]
                go_ret3
                refine ⟨?_, Grows.refl _⟩
                rw [Hr.out]
                show Ending.returned (.tuple #[.int .u64 (bits .or .u64 (acc : Int) (IntKind.u64.wrap ((x : Int) * 2 ^ (7 * k)))), .int .i64 ((k : Int) + 1), .int .i64 0]) = _
                rw [Ho.out]; rfl
end Go.Proofs.Ytdiciboaehdckaa
