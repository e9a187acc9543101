/-
  Layer 9: quoted forms: plain facts; a rune's form.
-/
import Derived.Test.YtcmgkmkpkklloaaDoorT12
import Derived.Lib.MapLaws
import Derived.Laws.Runes
namespace Go.Proofs.YtcmgkmkpkklloaaDoor
open Go.RowKit Go.Tab Go.WideShapes

theorem bytes_toList (l : List UInt8) : (bytes l).data.toList = l := by unfold bytes; simp
theorem bytes_inj {a b : List UInt8} : bytes a = bytes b ↔ a = b := ⟨fun h => by rw [← bytes_toList a, h, bytes_toList], fun h => by rw [h]⟩
def okRune (r : Nat) : Prop := r < 55296 ∨ (57344 ≤ r ∧ r ≤ 1114111)
theorem enc_list {r : Nat} (hv : okRune r) : Utf8.encode (r : Int) = bytes (Lib.encodeRune (r : Int)) := by
  have hvb : Utf8.valid (r : Int) = true := by
    unfold okRune at hv
    unfold Utf8.valid
    simp only [Bool.or_eq_true, Bool.and_eq_true, decide_eq_true_eq]
    omega
  unfold Utf8.encode
  simp only [hvb, if_true, Int.toNat_natCast]
  unfold okRune at hv
  unfold Lib.encodeRune
  by_cases h1 : r < 128
  · rw [if_pos h1, Lib.encodeRuneZ_one (by omega) (by omega)]
    simp only [List.map_cons, List.map_nil]
    rw [show ((r : Int)).toNat = r by omega]; rfl
  · by_cases h2 : r < 2048
    · rw [if_neg h1, if_pos h2, Lib.encodeRuneZ_two (by omega) (by omega)]
      simp only [List.map_cons, List.map_nil]
      rw [show (192 + (r : Int) / 64).toNat = 192 + r / 64 by omega, show (128 + (r : Int) % 64).toNat = 128 + r % 64 by omega]; rfl
    · by_cases h3 : r < 65536
      · rw [if_neg h1, if_neg h2, if_pos h3, Lib.encodeRuneZ_three (by omega)]
        simp only [List.map_cons, List.map_nil]
        rw [show (224 + (r : Int) / 4096).toNat = 224 + r / 4096 by omega, show (128 + (r : Int) / 64 % 64).toNat = 128 + r / 64 % 64 by omega, show (128 + (r : Int) % 64).toNat = 128 + r % 64 by omega]; rfl
      · rw [if_neg h1, if_neg h2, if_neg h3, Lib.encodeRuneZ_four (by omega) (by omega)]
        simp only [List.map_cons, List.map_nil]
        rw [show (240 + (r : Int) / 262144).toNat = 240 + r / 262144 by omega, show (128 + (r : Int) / 4096 % 64).toNat = 128 + r / 4096 % 64 by omega, show (128 + (r : Int) / 64 % 64).toNat = 128 + r / 64 % 64 by omega, show (128 + (r : Int) % 64).toNat = 128 + r % 64 by omega]; rfl
theorem enc_high {r : Nat} (hv : okRune r) (h : 128 ≤ r) : ∀ x ∈ Lib.encodeRune (r : Int), 128 ≤ x.toNat := by
  unfold okRune at hv
  have hb : ∀ z ∈ Lib.encodeRuneZ (r : Int), 128 ≤ z ∧ z < 256 := by
    intro z hz
    refine ⟨?_, (Lib.encodeRuneZ_byte _ z hz).2⟩
    by_cases h2 : r < 2048
    · rw [Lib.encodeRuneZ_two (by omega) (by omega)] at hz
      simp only [List.mem_cons, List.not_mem_nil, or_false] at hz
      omega
    · by_cases h3 : r < 65536
      · rw [Lib.encodeRuneZ_three (by omega)] at hz
        simp only [List.mem_cons, List.not_mem_nil, or_false] at hz
        omega
      · rw [Lib.encodeRuneZ_four (by omega) (by omega)] at hz
        simp only [List.mem_cons, List.not_mem_nil, or_false] at hz
        omega
  intro x hx
  unfold Lib.encodeRune at hx
  obtain ⟨z, hz, rfl⟩ := List.mem_map.1 hx
  obtain ⟨h1, h2⟩ := hb z hz
  rw [show z.toNat.toUInt8 = UInt8.ofNat z.toNat from rfl, UInt8.toNat_ofNat', Nat.mod_eq_of_lt (by omega)]
  omega
theorem dec_valid (n b0 b1 b2 b3 : Nat) : okRune (Lib.decodeN n b0 b1 b2 b3).1 := by
  unfold okRune
  rcases Lib.decodeN_shape n b0 b1 b2 b3 with ⟨c, e⟩ | ⟨c1, c2, c3, cv, e⟩ | ⟨c1, c2, c3, c4, cv, cs, e⟩ | ⟨c1, c2, c3, c4, c5, cv, cw, e⟩ | e <;> rw [e] <;> dsimp only <;> omega
theorem first_valid {s : ByteArray} {i : Nat} : okRune (firstF s i).1 := by
  unfold firstF
  split
  · split
    · exact .inl (by decide)
    · rw [dec_at]; exact dec_valid _ _ _ _ _
  · exact .inl (by decide)
theorem size_list (s : ByteArray) : s.data.toList.length = s.size := by rw [Array.length_toList]; rfl
theorem ext_list (s : ByteArray) (i j : Nat) : s.extract i j = bytes ((s.data.toList.drop i).take (j - i)) := by
  apply ByteArray.ext
  rw [ByteArray.data_extract]
  apply Array.ext'
  show (s.data.extract i j).toList = ((s.data.toList.drop i).take (j - i)).toArray.toList
  rw [Array.toList_extract]
theorem drop_ext (s : ByteArray) (i : Nat) : (⟨(s.data.toList.drop i).toArray⟩ : ByteArray) = s.extract i s.size := by
  rw [ext_list, List.take_of_length_le (by rw [List.length_drop, size_list]; exact Nat.le_refl _)]
  rfl
theorem decodeL_at {s : ByteArray} {i : Nat} (hi : i < s.size) : Lib.decodeL (s.data.toList.drop i) = Utf8.decode s i := by
  unfold Lib.decodeL
  rw [drop_ext s i, dec_at, dec_at, B_ext s i 0 (by omega), B_ext s i _ (by omega), B_ext s i _ (by omega), B_ext s i _ (by omega), ByteArray.size_extract]
  simp only [Nat.add_zero, Nat.zero_add, Nat.sub_zero]
  rw [show min s.size s.size - i = s.size - i by omega]
/-- A byte's part of a quoted form; a rune's. -/
def qB (c : UInt8) : List UInt8 := if formL c.toNat = [] then [c] else formL c.toNat
def qF (r : Nat) : List UInt8 := if formL r = [] then Lib.encodeRune (r : Int) else formL r
theorem form_high {r : Nat} (h : 128 ≤ r) : formL r = [] := by
  unfold formL
  rw [if_neg (by omega), if_neg (by omega), if_neg (by omega), if_neg (by omega), if_neg (by omega)]
theorem q_step {s : ByteArray} {i : Nat} (hi : i < s.size) (hn : (firstF s i).2 ≠ 0) : qF (firstF s i).1 = ((s.data.toList.drop i).take (firstF s i).2).flatMap qB := by
  have hd := dec_right hi hn
  have hsz : s.data.toList.length = s.size := by rw [Array.length_toList]; rfl
  have hw : ¬ ((Lib.decodeL (s.data.toList.drop i)).1 = 65533 ∧ (Lib.decodeL (s.data.toList.drop i)).2 = 1) := by
    rw [decodeL_at hi]
    intro h
    exact hn ((wrong_iff hi).1 h)
  have he := Lib.encode_decode (s.data.toList.drop i) (by intro h; have := congrArg List.length h; simp at this; omega) hw
  rw [decodeL_at hi, hd] at he
  rw [← he]
  have hv := first_valid (s := s) (i := i)
  generalize (firstF s i).1 = r at hv
  by_cases h : r < 128
  · have h1 : Lib.encodeRune (r : Int) = [r.toUInt8] := by
      unfold Lib.encodeRune
      rw [Lib.encodeRuneZ_one (by omega) (by omega)]
      simp
    have h2 : (r.toUInt8).toNat = r := by
      rw [show r.toUInt8 = UInt8.ofNat r from rfl, UInt8.toNat_ofNat', Nat.mod_eq_of_lt (by omega)]
    unfold qF
    rw [h1]
    simp only [List.flatMap_cons, List.flatMap_nil, List.append_nil]
    unfold qB
    rw [h2]
  · have hh := enc_high hv (by omega)
    unfold qF
    rw [form_high (by omega), if_pos rfl]
    have : ∀ l : List UInt8, (∀ x ∈ l, 128 ≤ x.toNat) → l.flatMap qB = l := by
      intro l
      induction l with
      | nil => intro _; rfl
      | cons x t ih =>
        intro hx
        rw [List.flatMap_cons, ih (fun y hy => hx y (List.mem_cons_of_mem _ hy))]
        unfold qB
        rw [form_high (hx x (List.mem_cons_self ..)), if_pos rfl]
        rfl
    exact (this _ hh).symm

set_option maxRecDepth 100000 in
set_option maxHeartbeats 2000000 in
theorem quote1_any (r : Nat) (w : World) (hv : okRune r) : Calls Tryd.prog 25 #[.int .i32 (r : Int)] w (Ret (.string (bytes (qF r))) w) := by
  have HC := Lib.hid (escaped_any r w (by unfold okRune at hv; omega))
  have HE := Lib.hid (enc_list hv)
  have HQ : Hid (qF r = _) := Lib.hid (qF.eq_1 r)
  generalize qF r = q at HQ ⊢
  generalize formL r = f at HQ HC
  go_enter Tryd.func25, Tryd.ntmps25
  go_wp2_with fail
  refine HC.out.mono ?_
  rintro _ w1 ⟨rfl, hg⟩
  have HG := Lib.hid hg
  clear hg HC
  by_cases hf : f = []
  · rw [if_pos hf] at HQ
    rw [decide_eq_false (fun h => h hf)]
    clear hf
    have HQ2 : Hid (Utf8.encode (r : Int) = bytes q) := Lib.hid (by rw [HE.out, HQ.out])
    clear HQ HE
    go_wp2
    go_ret
    exact ⟨by rw [HQ2.out]; rfl, HG.out⟩
  · rw [if_neg hf] at HQ
    rw [decide_eq_true hf]
    clear hf
    go_wp2
    go_ret
    exact ⟨by rw [HQ.out]; rfl, HG.out⟩
end Go.Proofs.YtcmgkmkpkklloaaDoor
