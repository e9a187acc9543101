/-
  Layer 9: texts rune by rune: the program's.
-/
import Derived.Test.YtcmgkmkpkklloaaDoorT3
import Derived.Test.YtcmgkmkpkklloaaDoorSh
import Derived.Lib.OthersKept
namespace Go.Proofs.YtcmgkmkpkklloaaDoor
open Go.RowKit Go.Tab Go.WideShapes

/-- The library's two tables lie as they were laid. -/
abbrev Tabs (w : World) : Prop := Lib.Utf8Tabs 0 1 w
theorem Tabs.grows {w w' : World} (h : Tabs w) (hg : Grows w w') : Tabs w' := Proofs.Utf8Tabs_below h hg
theorem ret_bool' {a b : Bool} (h : a = b) : Ending.returned (.bool a) = .returned (.bool b) := by rw [h]
theorem decN_form (m c b1 b2 b3 : Nat) : (c < 128 ∧ Lib.decodeN m c b1 b2 b3 = (c, 1)) ∨ (128 ≤ c ∧ (Lib.decodeN m c b1 b2 b3 = (65533, 1) ∨ 2 ≤ (Lib.decodeN m c b1 b2 b3).2)) := by
  by_cases h0 : c < 128
  · exact .inl ⟨h0, by unfold Lib.decodeN; rw [if_pos h0]⟩
  · refine .inr ⟨by omega, ?_⟩
    unfold Lib.decodeN
    rw [if_neg h0]
    repeat' split
    all_goals first | exact .inl rfl | exact .inr (Nat.le_refl 2) | exact .inr (by show 2 ≤ 3; omega) | exact .inr (by show 2 ≤ 4; omega)
theorem wrong_iff {s : ByteArray} {i : Nat} (hi : i < s.size) : ((Utf8.decode s i).1 = 65533 ∧ (Utf8.decode s i).2 = 1) ↔ (firstF s i).2 = 0 := by
  unfold firstF
  rw [if_pos hi, dec_at]
  have hf := decN_form (s.size - i) (B s i) (B s (i + 1)) (B s (i + 2)) (B s (i + 3))
  generalize Lib.decodeN (s.size - i) (B s i) (B s (i + 1)) (B s (i + 2)) (B s (i + 3)) = D at hf ⊢
  obtain ⟨d1, d2⟩ := D
  simp only [Prod.mk.injEq] at hf ⊢
  by_cases h : 128 ≤ B s i ∧ d2 = 1
  · rw [if_pos h]
    refine ⟨fun _ => rfl, fun _ => ?_⟩
    omega
  · rw [if_neg h]
    show (d1 = 65533 ∧ d2 = 1) ↔ d2 = 0
    omega
theorem dec_right {s : ByteArray} {i : Nat} (hi : i < s.size) (h : (firstF s i).2 ≠ 0) : Utf8.decode s i = firstF s i := by
  unfold firstF at h ⊢
  rw [if_pos hi] at h ⊢
  split at h
  · exact absurd rfl h
  · rename_i hn; rw [if_neg hn]
theorem go_ext {s : ByteArray} {i : Nat} (hi : i < s.size) : Lib.decodeGo (s.extract i s.size) = Utf8.decode s i := by
  unfold Lib.decodeGo
  rw [if_neg (by rw [ByteArray.size_extract]; omega), dec_at, dec_at, B_ext s i 0 (by omega), B_ext s i _ (by omega), B_ext s i _ (by omega), B_ext s i _ (by omega), ByteArray.size_extract]
  simp only [Nat.add_zero, Nat.zero_add, Nat.sub_zero]
  rw [show min s.size s.size - i = s.size - i by omega]

set_option maxRecDepth 100000 in
set_option maxHeartbeats 2000000 in
theorem wrong_any (s : ByteArray) (i : Nat) (w : World) (hs : s.size ≤ 1000) (hi : i < s.size) (hT : Tabs w) :
    Calls Tryd.prog 22 #[.string s, .int .i64 i, .int .i32 (Utf8.decode s i).1] w (Ret (.bool (decide ((firstF s i).2 = 0))) w) := by
  have HW := Lib.hid (wrong_iff hi)
  have HD := Lib.hid (Proofs.Tryd.utf8_DecodeRuneInString (s.extract i s.size) w hT)
  rw [go_ext hi] at HD
  generalize (firstF s i).2 = n at HW ⊢
  obtain ⟨⟨r, k⟩, hd⟩ : ∃ d, d = Utf8.decode s i := ⟨_, rfl⟩
  rw [← hd] at HW HD ⊢
  clear hd
  simp only at HW HD ⊢
  by_cases hr : r = 65533
  · have hrz : (r : Int) = 65533 := by omega
    have hiz : (i : Int) ≤ (s.size : Int) := by omega
    have HE : Hid (decide (n = 0) = decide ((k : Int) = 1)) := Lib.hid (by
      rw [Bool.eq_iff_iff]; simp only [decide_eq_true_eq]
      rw [← HW.out]; omega)
    subst hr
    clear hrz
    go_enter Tryd.func22, Tryd.ntmps22
    go_wp2_with fail
    refine HD.out.mono ?_
    rintro _ w1 ⟨rfl, hg⟩
    go_wp2
    go_ret
    exact ⟨ret_bool' (by rw [HE.out]; rfl), hg⟩
  · have hrz : ¬ (r : Int) = 65533 := by omega
    have HE : Hid (decide (n = 0) = false) := Lib.hid (decide_eq_false (fun h => hr (HW.out.2 h).1))
    go_enter Tryd.func22, Tryd.ntmps22
    go_wp2
    go_ret
    exact ⟨ret_bool' HE.out.symm, Grows.refl _⟩
end Go.Proofs.YtcmgkmkpkklloaaDoor
