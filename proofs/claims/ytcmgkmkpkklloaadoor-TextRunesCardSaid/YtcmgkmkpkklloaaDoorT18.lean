/-
  Layer 9: a text ahead of its first blank.
-/
import Derived.Test.YtcmgkmkpkklloaaDoorT17
namespace Go.Proofs.YtcmgkmkpkklloaaDoor
open Go.RowKit Go.Tab Go.WideShapes

/-- How many bytes stand ahead of the first c. -/
def ahead (c : UInt8) : List UInt8 → Nat
  | [] => 0
  | b :: l => if b == c then 0 else ahead c l + 1
theorem ahead_le (c : UInt8) : ∀ l, ahead c l ≤ l.length
  | [] => Nat.le_refl _
  | b :: l => by
    unfold ahead
    have := ahead_le c l
    split
    · exact Nat.zero_le _
    · rw [List.length_cons]; omega
theorem index_ahead (c : UInt8) : ∀ l, Lib.indexByte l c = if ahead c l = l.length then -1 else (ahead c l : Int)
  | [] => rfl
  | b :: l => by
    have hle := ahead_le c l
    unfold Lib.indexByte ahead
    rw [index_ahead c l, List.length_cons]
    by_cases hb : (b == c) = true
    · rw [if_pos hb, if_pos hb, if_neg (by omega)]; rfl
    · rw [if_neg hb, if_neg hb]
      by_cases h : ahead c l = l.length
      · rw [if_pos h, if_pos (show ((-1 : Int) == -1) = true from rfl), if_pos (show ahead c l + 1 = l.length + 1 by omega)]
      · rw [if_neg h, if_neg (show ¬ (((ahead c l : Nat) : Int) == -1) = true by rw [beq_iff_eq]; omega), if_neg (show ¬ ahead c l + 1 = l.length + 1 by omega)]
        omega
/-- The bytes ahead of the first blank. -/
def headB (s : ByteArray) : Nat := ahead 32 s.data.toList
theorem headB_le (s : ByteArray) : headB s ≤ s.size := by
  have := ahead_le 32 s.data.toList
  rw [size_list] at this
  exact this
def CutPost (s : ByteArray) (w : World) : Ending → World → Prop := fun e w' => ∃ r b, e = .returned (.tuple #[.string (s.extract 0 (headB s)), .string r, .bool b]) ∧ Grows w w'

set_option maxRecDepth 100000 in
set_option maxHeartbeats 4000000 in
theorem slcut_any (s : ByteArray) (w : World) (hs : s.size ≤ 1000) : Calls Tryd.prog 48 #[.string s, .string ⟨#[32]⟩] w (CutPost s w) := by
  have HI := Lib.hid (Proofs.Tryd.stringslite_Index_one s 32 w)
  have HX := Lib.hid (index_ahead 32 s.data.toList)
  have HLE := Lib.hid (headB_le s)
  have HP : Hid (∀ e w', CutPost s w e w' = _) := Lib.hid (fun e w' => rfl)
  have HF := Lib.hid (ext_list s 0 s.size)
  rw [size_list] at HX
  rw [show ahead 32 s.data.toList = headB s from rfl] at HX
  obtain ⟨k, hk⟩ : ∃ k, k = headB s := ⟨_, rfl⟩
  have HKK := Lib.hid hk
  rw [← hk] at HX HLE
  clear hk
  generalize Lib.indexByte s.data.toList 32 = x at HI HX
  go_enter Tryd.func48, Tryd.ntmps48
  go_wp2_with fail
  refine HI.out.mono ?_
  rintro _ w1 ⟨rfl, rfl⟩
  by_cases h : k = s.size
  · rw [if_pos h] at HX
    obtain rfl := HX.out
    have HE : Hid (s.extract 0 k = s) := Lib.hid (by rw [h, HF.out, List.drop_zero, List.take_of_length_le (by rw [size_list]; omega)]; unfold bytes; simp)
    clear h HX
    go_wp2
    go_ret3
    exact ⟨⟨#[]⟩, false, by rw [← HKK.out, HE.out]; rfl, Grows.refl _⟩
  · rw [if_neg h] at HX
    obtain rfl := HX.out
    have hkle := HLE.out
    have hkz : (k : Int) + 1 ≤ (s.size : Int) := by omega
    have hkz2 : (k : Int) ≤ (s.size : Int) := by omega
    have hw : IntKind.i64.wrap ((k : Int) + 1) = (k : Int) + 1 := by rw [IntKind.wrap_i64]; omega
    clear h HX hkle
    go_wp2
    go_region
    all_goals
      go_wp2
      go_ret3
      exact ⟨_, true, by rw [← HKK.out]; rfl, Below.drew (Grows.refl _)⟩
set_option maxRecDepth 100000 in
set_option maxHeartbeats 4000000 in
theorem scut_any (s : ByteArray) (w : World) (hs : s.size ≤ 1000) : Calls Tryd.prog 41 #[.string s, .string ⟨#[32]⟩] w (CutPost s w) := by
  have HI := Lib.hid (slcut_any s w hs)
  go_enter Tryd.func41, Tryd.ntmps41
  go_wp2_with fail
  refine HI.out.mono ?_
  rintro _ w1 ⟨r, b, rfl, hg⟩
  have HG := Lib.hid hg
  clear hg HI
  go_wp2
  go_ret3
  exact ⟨r, b, rfl, HG.out⟩
end Go.Proofs.YtcmgkmkpkklloaaDoor
