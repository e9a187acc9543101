/-
  Layer 9: the rune that a text begins with: the document's, and the model's own.
-/
import Derived.Test.YtcmgkmkpkklloaaDoorIb
import Derived.Lib.DecodeN
namespace Go.Proofs.YtcmgkmkpkklloaaDoor
open Go.RowKit Go.Tab Go.WideShapes

/-- A text's byte, as a number. -/
def B (s : ByteArray) (j : Nat) : Nat := (s.get! j).toNat
theorem B_lt (s : ByteArray) (j : Nat) : B s j < 256 := (s.get! j).toNat_lt
/-- The rune at a place, and how many bytes it has; 0 bytes: none. -/
def firstF (s : ByteArray) (i : Nat) : Nat × Nat := if i < s.size then (if 128 ≤ B s i ∧ (Utf8.decode s i).2 = 1 then (0, 0) else Utf8.decode s i) else (0, 0)
/-- What a first byte tells: how many bytes, its part, the least rune. -/
def cls (c : Nat) : Nat × Nat × Nat := if c < 192 then (0, 0, 0) else if c < 224 then (2, c - 192, 128) else if c < 240 then (3, c - 224, 2048) else if c < 248 then (4, c - 240, 65536) else (0, 0, 0)
theorem cls_form (c : Nat) (hc : 128 ≤ c) (hc2 : c < 256) : (cls c = (0, 0, 0) ∧ (c < 192 ∨ 248 ≤ c)) ∨ (cls c = (2, c - 192, 128) ∧ 192 ≤ c ∧ c < 224) ∨ (cls c = (3, c - 224, 2048) ∧ 224 ≤ c ∧ c < 240) ∨ (cls c = (4, c - 240, 65536) ∧ 240 ≤ c ∧ c < 248) := by
  unfold cls
  by_cases h1 : c < 192
  · rw [if_pos h1]; exact .inl ⟨rfl, .inl h1⟩
  · rw [if_neg h1]
    by_cases h2 : c < 224
    · rw [if_pos h2]; exact .inr (.inl ⟨rfl, by omega, h2⟩)
    · rw [if_neg h2]
      by_cases h3 : c < 240
      · rw [if_pos h3]; exact .inr (.inr (.inl ⟨rfl, by omega, h3⟩))
      · rw [if_neg h3]
        by_cases h4 : c < 248
        · rw [if_pos h4]; exact .inr (.inr (.inr ⟨rfl, by omega, h4⟩))
        · rw [if_neg h4]; exact .inl ⟨rfl, .inr (by omega)⟩
/-- The number of the first k bytes. -/
def valF (s : ByteArray) (i r : Nat) : Nat → Int
  | 0 => r
  | 1 => r
  | k + 2 => 64 * valF s i r (k + 1) + (B s (i + (k + 1)) : Int) - 128
theorem valF_succ {s : ByteArray} {i r k : Nat} (hk : 1 ≤ k) : valF s i r (k + 1) = 64 * valF s i r k + (B s (i + k) : Int) - 128 := by
  match k, hk with
  | k + 1, _ => rfl
theorem dec_at (s : ByteArray) (i : Nat) : Utf8.decode s i = Lib.decodeN (s.size - i) (B s i) (B s (i + 1)) (B s (i + 2)) (B s (i + 3)) := Lib.decode_at s i
theorem first_ascii {s : ByteArray} {i : Nat} (hi : i < s.size) (h : B s i < 128) : firstF s i = (B s i, 1) := by
  unfold firstF
  rw [if_pos hi, if_neg (by omega), dec_at]
  unfold Lib.decodeN
  rw [if_pos h]
def contB (b : Nat) : Prop := 128 ≤ b ∧ b < 192
theorem first_none {s : ByteArray} {i n r l : Nat} (hi : i < s.size) (h : 128 ≤ B s i) (hc : cls (B s i) = (n, r, l)) (hn : n = 0 ∨ s.size - i < n) : firstF s i = (0, 0) := by
  have h8 := B_lt s i
  unfold firstF
  rw [if_pos hi, dec_at]
  generalize s.size - i = m at hn ⊢
  generalize B s (i + 1) = b1
  generalize B s (i + 2) = b2
  generalize B s (i + 3) = b3
  generalize B s i = c at h hc h8 ⊢
  rcases cls_form c h h8 with ⟨h1, h2⟩ | ⟨h1, h2⟩ | ⟨h1, h2⟩ | ⟨h1, h2⟩ <;> rw [h1] at hc <;> simp only [Prod.mk.injEq] at hc <;> obtain ⟨rfl, rfl, rfl⟩ := hc
  · have hd : Lib.decodeN m c b1 b2 b3 = (65533, 1) := by unfold Lib.decodeN; rw [if_neg (by omega), if_neg (by omega), if_neg (by omega), if_neg (by omega)]
    rw [hd, if_pos ⟨h, rfl⟩]
  · have hd : Lib.decodeN m c b1 b2 b3 = (65533, 1) := by unfold Lib.decodeN; rw [if_neg (by omega), if_neg (by omega), if_neg (by omega), if_neg (by omega)]
    rw [hd, if_pos ⟨h, rfl⟩]
  · have hd : Lib.decodeN m c b1 b2 b3 = (65533, 1) := by unfold Lib.decodeN; rw [if_neg (by omega), if_neg (by omega), if_neg (by omega), if_neg (by omega)]
    rw [hd, if_pos ⟨h, rfl⟩]
  · have hd : Lib.decodeN m c b1 b2 b3 = (65533, 1) := by unfold Lib.decodeN; rw [if_neg (by omega), if_neg (by omega), if_neg (by omega), if_neg (by omega)]
    rw [hd, if_pos ⟨h, rfl⟩]
theorem first_cut {s : ByteArray} {i n r l k : Nat} (hi : i < s.size) (h : 128 ≤ B s i) (hc : cls (B s i) = (n, r, l)) (hk : 1 ≤ k) (hkn : k < n) (hb : ¬ contB (B s (i + k))) : firstF s i = (0, 0) := by
  have h8 := B_lt s i
  have h9 := B_lt s (i + k)
  have hk' : (k = 1 ∧ 1 < n) ∨ (k = 2 ∧ 2 < n) ∨ (k = 3 ∧ 3 < n) ∨ 3 < k := by omega
  unfold contB at hb
  unfold firstF
  rw [if_pos hi, dec_at]
  generalize s.size - i = m
  generalize e1 : B s (i + 1) = b1
  generalize e2 : B s (i + 2) = b2
  generalize e3 : B s (i + 3) = b3
  have hbb : (k = 1 → ¬ (128 ≤ b1 ∧ b1 < 192) ∧ b1 < 256) ∧ (k = 2 → ¬ (128 ≤ b2 ∧ b2 < 192) ∧ b2 < 256) ∧ (k = 3 → ¬ (128 ≤ b3 ∧ b3 < 192) ∧ b3 < 256) := by
    refine ⟨?_, ?_, ?_⟩ <;> intro hk <;> subst hk
    · rw [← e1]; exact ⟨hb, h9⟩
    · rw [← e2]; exact ⟨hb, h9⟩
    · rw [← e3]; exact ⟨hb, h9⟩
  clear e1 e2 e3 hb h9
  generalize B s i = c at h hc h8 ⊢
  rcases cls_form c h h8 with ⟨h1, h2⟩ | ⟨h1, h2⟩ | ⟨h1, h2⟩ | ⟨h1, h2⟩ <;> rw [h1] at hc <;> simp only [Prod.mk.injEq] at hc <;> obtain ⟨rfl, rfl, rfl⟩ := hc
  · omega
  · have hd : Lib.decodeN m c b1 b2 b3 = (65533, 1) := by unfold Lib.decodeN; rw [if_neg (by omega), if_neg (by omega), if_neg (by omega), if_neg (by omega)]
    rw [hd, if_pos ⟨h, rfl⟩]
  · have hd : Lib.decodeN m c b1 b2 b3 = (65533, 1) := by unfold Lib.decodeN; rw [if_neg (by omega), if_neg (by omega), if_neg (by omega), if_neg (by omega)]
    rw [hd, if_pos ⟨h, rfl⟩]
  · have hd : Lib.decodeN m c b1 b2 b3 = (65533, 1) := by unfold Lib.decodeN; rw [if_neg (by omega), if_neg (by omega), if_neg (by omega), if_neg (by omega)]
    rw [hd, if_pos ⟨h, rfl⟩]
/-- All bytes are right: the rune, if it may be. -/
theorem first_fin {s : ByteArray} {i n r l : Nat} (hi : i < s.size) (h : 128 ≤ B s i) (hc : cls (B s i) = (n, r, l)) (hn : n ≠ 0) (hm : n ≤ s.size - i) (hb : ∀ k, 1 ≤ k → k < n → contB (B s (i + k))) :
    0 ≤ valF s i r n ∧ valF s i r n ≤ 2097151 ∧ firstF s i = if valF s i r n < l ∨ 1114111 < valF s i r n ∨ (55296 ≤ valF s i r n ∧ valF s i r n ≤ 57343) then (0, 0) else ((valF s i r n).toNat, n) := by
  have h8 := B_lt s i
  unfold contB at hb
  unfold firstF
  rw [if_pos hi, dec_at]
  generalize s.size - i = m at hm ⊢
  rcases cls_form (B s i) h h8 with ⟨h1, h2⟩ | ⟨h1, h2⟩ | ⟨h1, h2⟩ | ⟨h1, h2⟩ <;> rw [h1] at hc <;> simp only [Prod.mk.injEq] at hc <;> obtain ⟨rfl, rfl, rfl⟩ := hc
  · exact absurd rfl hn
  · have c1 := hb 1 (by omega) (by omega)
    have hv : valF s i (B s i - 192) 2 = 64 * ((B s i - 192 : Nat) : Int) + (B s (i + 1) : Int) - 128 := rfl
    rw [hv]
    generalize B s (i + 1) = b1 at *
    generalize B s (i + 2) = b2
    generalize B s (i + 3) = b3
    generalize B s i = c at *
    clear hb hv h1
    refine ⟨by omega, by omega, ?_⟩
    have hd : Lib.decodeN m c b1 b2 b3 = if c % 32 * 64 + b1 % 64 ≥ 128 then (c % 32 * 64 + b1 % 64, 2) else (65533, 1) := by
      unfold Lib.decodeN; rw [if_neg (by omega), if_pos (by omega)]
    rw [hd]
    by_cases hq : c % 32 * 64 + b1 % 64 ≥ 128
    · rw [if_pos hq, if_neg (fun k => by have := k.2; cases this), if_neg (by omega)]
      exact Prod.ext (by show c % 32 * 64 + b1 % 64 = _; omega) rfl
    · rw [if_neg hq, if_pos ⟨h, rfl⟩, if_pos (by omega)]
  · have c1 := hb 1 (by omega) (by omega)
    have c2 := hb 2 (by omega) (by omega)
    have hv : valF s i (B s i - 224) 3 = 64 * (64 * ((B s i - 224 : Nat) : Int) + (B s (i + 1) : Int) - 128) + (B s (i + 2) : Int) - 128 := rfl
    rw [hv]
    generalize B s (i + 1) = b1 at *
    generalize B s (i + 2) = b2 at *
    generalize B s (i + 3) = b3
    generalize B s i = c at *
    clear hb hv h1
    refine ⟨by omega, by omega, ?_⟩
    have hd : Lib.decodeN m c b1 b2 b3 = if c % 16 * 4096 + b1 % 64 * 64 + b2 % 64 ≥ 2048 ∧ (c % 16 * 4096 + b1 % 64 * 64 + b2 % 64 < 55296 ∨ (57344 ≤ c % 16 * 4096 + b1 % 64 * 64 + b2 % 64 ∧ c % 16 * 4096 + b1 % 64 * 64 + b2 % 64 ≤ 1114111)) then (c % 16 * 4096 + b1 % 64 * 64 + b2 % 64, 3) else (65533, 1) := by
      unfold Lib.decodeN; rw [if_neg (by omega), if_neg (by omega), if_pos (by omega)]
    rw [hd]
    by_cases hq : c % 16 * 4096 + b1 % 64 * 64 + b2 % 64 ≥ 2048 ∧ (c % 16 * 4096 + b1 % 64 * 64 + b2 % 64 < 55296 ∨ (57344 ≤ c % 16 * 4096 + b1 % 64 * 64 + b2 % 64 ∧ c % 16 * 4096 + b1 % 64 * 64 + b2 % 64 ≤ 1114111))
    · rw [if_pos hq, if_neg (fun k => by have := k.2; cases this), if_neg (by omega)]
      exact Prod.ext (by show c % 16 * 4096 + b1 % 64 * 64 + b2 % 64 = _; omega) rfl
    · rw [if_neg hq, if_pos ⟨h, rfl⟩, if_pos (by omega)]
  · have c1 := hb 1 (by omega) (by omega)
    have c2 := hb 2 (by omega) (by omega)
    have c3 := hb 3 (by omega) (by omega)
    have hv : valF s i (B s i - 240) 4 = 64 * (64 * (64 * ((B s i - 240 : Nat) : Int) + (B s (i + 1) : Int) - 128) + (B s (i + 2) : Int) - 128) + (B s (i + 3) : Int) - 128 := rfl
    rw [hv]
    generalize B s (i + 1) = b1 at *
    generalize B s (i + 2) = b2 at *
    generalize B s (i + 3) = b3 at *
    generalize B s i = c at *
    clear hb hv h1
    refine ⟨by omega, by omega, ?_⟩
    have hd : Lib.decodeN m c b1 b2 b3 = if c % 8 * 262144 + b1 % 64 * 4096 + b2 % 64 * 64 + b3 % 64 ≥ 65536 ∧ (c % 8 * 262144 + b1 % 64 * 4096 + b2 % 64 * 64 + b3 % 64 < 55296 ∨ (57344 ≤ c % 8 * 262144 + b1 % 64 * 4096 + b2 % 64 * 64 + b3 % 64 ∧ c % 8 * 262144 + b1 % 64 * 4096 + b2 % 64 * 64 + b3 % 64 ≤ 1114111)) then (c % 8 * 262144 + b1 % 64 * 4096 + b2 % 64 * 64 + b3 % 64, 4) else (65533, 1) := by
      unfold Lib.decodeN; rw [if_neg (by omega), if_neg (by omega), if_neg (by omega), if_pos (by omega)]
    rw [hd]
    by_cases hq : c % 8 * 262144 + b1 % 64 * 4096 + b2 % 64 * 64 + b3 % 64 ≥ 65536 ∧ (c % 8 * 262144 + b1 % 64 * 4096 + b2 % 64 * 64 + b3 % 64 < 55296 ∨ (57344 ≤ c % 8 * 262144 + b1 % 64 * 4096 + b2 % 64 * 64 + b3 % 64 ∧ c % 8 * 262144 + b1 % 64 * 4096 + b2 % 64 * 64 + b3 % 64 ≤ 1114111))
    · rw [if_pos hq, if_neg (fun k => by have := k.2; cases this), if_neg (by omega)]
      exact Prod.ext (by show c % 8 * 262144 + b1 % 64 * 4096 + b2 % 64 * 64 + b3 % 64 = _; omega) rfl
    · rw [if_neg hq, if_pos ⟨h, rfl⟩, if_pos (by omega)]
end Go.Proofs.YtcmgkmkpkklloaaDoor
