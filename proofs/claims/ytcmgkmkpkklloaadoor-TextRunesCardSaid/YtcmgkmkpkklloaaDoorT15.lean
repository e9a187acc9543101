/-
  Layer 9: forms of two digits; a rune's form.
-/
import Derived.Test.YtcmgkmkpkklloaaDoorT14
namespace Go.Proofs.YtcmgkmkpkklloaaDoor
open Go.RowKit Go.Tab Go.WideShapes

theorem str_ne {a b : ByteArray} (h : ¬ a = b) : (a.toList == b.toList) = false := by
  rw [ByteArray.toList_eq, ByteArray.toList_eq]
  exact beq_eq_false_iff_ne.2 (fun e => h (ByteArray.ext (Array.ext' e)))
/-- A digit's place to sixteen; 16: none. -/
def dg (c : Nat) : Nat := if 48 ≤ c ∧ c ≤ 57 then c - 48 else if 97 ≤ c ∧ c ≤ 102 then c - 87 else 16
set_option maxRecDepth 100000 in
theorem dg_index : ∀ c : Fin 256, Lib.indexByte hexS.data.toList ((c.1 : Int)).toNat.toUInt8 = if dg c.1 = 16 then -1 else (dg c.1 : Int) := by decide
theorem dg_le (c : Nat) : dg c ≤ 16 := by unfold dg; split; omega; split; omega; omega
/-- The rune of a form of two digits, its bytes, the error. -/
def twoD (s : ByteArray) : Nat × Nat × Nat :=
  if s.size ≤ 2 then (0, 0, 4) else if dg (B s 2) = 16 then (0, 0, 3) else if s.size ≤ 3 then (0, 0, 4) else if dg (B s 3) = 16 then (0, 0, 3)
  else if formL (16 * dg (B s 2) + dg (B s 3)) = s.data.toList.take 4 then (16 * dg (B s 2) + dg (B s 3), 4, 0) else (0, 0, 3)
def triV (t : Nat × Nat × Nat) : Value := .tuple #[.int .i32 (t.1 : Int), .int .i64 (t.2.1 : Int), .int .i64 (t.2.2 : Int)]

set_option maxRecDepth 100000 in
set_option maxHeartbeats 4000000 in
theorem two_any (s : ByteArray) (w : World) (hs : s.size ≤ 1000) (hs2 : 2 ≤ s.size) : Calls Tryd.prog 38 #[.string s] w (Ret (triV (twoD s)) w) := by
  have HX := Lib.hid (fun (c : Nat) (hc : c < 256) w' => Proofs.Tryd.strings_IndexByte hexS (c : Int) w')
  go_enter Tryd.func38, Tryd.ntmps38
  go_wp2
  go_loopw [5, 6] (fun r p wr => wr = w ∧ ((r = .int .i32 0 ∧ p = .int .i64 2) ∨ (r = .int .i32 (dg (B s 2) : Int) ∧ p = .int .i64 3 ∧ 2 < s.size ∧ dg (B s 2) < 16) ∨ (r = .int .i32 ((16 * dg (B s 2) + dg (B s 3) : Nat) : Int) ∧ p = .int .i64 4 ∧ 3 < s.size ∧ dg (B s 2) < 16 ∧ dg (B s 3) < 16))) (fun _ p _ => 4 - (intOf p).toNat)
  case atStart => exact ⟨rfl, .inl ⟨rfl, rfl⟩⟩
  case round =>
    obtain ⟨rfl, ⟨rfl, rfl⟩ | ⟨rfl, rfl, h3, hd2⟩ | ⟨rfl, rfl, h3, hd2, hd3⟩⟩ := hrel
    · by_cases h : s.size = 2
      · have hz2 : (s.size : Int) = 2 := by omega
        have HV : Hid (twoD s = (0, 0, 4)) := Lib.hid (by unfold twoD; rw [if_pos (by omega)])
        clear h
        go_wp2
        go_ret3
        exact ⟨by rw [HV.out]; rfl, Grows.refl _⟩
      · have hz : ¬ (2 : Int) = (s.size : Int) := by omega
        have hz2 : (2 : Int) < (s.size : Int) := by omega
        have hk : 2 < s.size := by omega
        obtain ⟨y, hy⟩ : ∃ y, s.get! 2 = y := ⟨_, rfl⟩
        have hsy : s[2]'hk = y := by rw [← hy]; exact (Utf8W.get!_of_lt s 2 hk).symm
        have HBY : Hid (B s 2 = y.toNat) := Lib.hid (by unfold B; rw [hy])
        have HI := Lib.hid (HX.out y.toNat y.toNat_lt)
        have HD : Hid (Lib.indexByte hexS.data.toList ((y.toNat : Int)).toNat.toUInt8 = if dg y.toNat = 16 then -1 else (dg y.toNat : Int)) := Lib.hid (dg_index ⟨y.toNat, y.toNat_lt⟩)
        generalize Lib.indexByte hexS.data.toList ((y.toNat : Int)).toNat.toUInt8 = x at HI HD
        have hdl := dg_le y.toNat
        clear hy
        go_wp2_with fail
        refine (HI.out _).mono ?_
        rintro _ w' ⟨rfl, rfl⟩
        by_cases hd : dg y.toNat = 16
        · rw [if_pos hd] at HD
          obtain rfl := HD.out
          have HV : Hid (twoD s = (0, 0, 3)) := Lib.hid (by unfold twoD; rw [if_neg (by omega)]; rw [if_pos (by rw [HBY.out]; exact hd)])
          clear HD hd
          go_wp2
          go_ret3
          exact ⟨by rw [HV.out]; rfl, Grows.refl _⟩
        · rw [if_neg hd] at HD
          obtain rfl := HD.out
          clear HD
          obtain ⟨d, hdd⟩ : ∃ d, d = dg y.toNat := ⟨_, rfl⟩
          rw [← hdd] at hd hdl ⊢
          have HDD : Hid (dg (B s 2) = d) := Lib.hid (by rw [HBY.out, hdd])
          have hdl2 : d < 16 := by omega
          have hdz : ¬ (d : Int) < 0 := by omega
          clear hd hdl hdd
          go_wp2
          exact ⟨⟨trivial, .inr (.inl ⟨by rw [HDD.out], rfl, hk, by rw [HDD.out]; exact hdl2⟩)⟩, by decide⟩
    · by_cases h : s.size = 3
      · have hz2 : (s.size : Int) = 3 := by omega
        have HV : Hid (twoD s = (0, 0, 4)) := Lib.hid (by unfold twoD; rw [if_neg (by omega), if_neg (by omega), if_pos (by omega)])
        clear h
        go_wp2
        go_ret3
        exact ⟨by rw [HV.out]; rfl, Grows.refl _⟩
      · have hz : ¬ (3 : Int) = (s.size : Int) := by omega
        have hz2 : (3 : Int) < (s.size : Int) := by omega
        have hk : 3 < s.size := by omega
        obtain ⟨y, hy⟩ : ∃ y, s.get! 3 = y := ⟨_, rfl⟩
        have hsy : s[3]'hk = y := by rw [← hy]; exact (Utf8W.get!_of_lt s 3 hk).symm
        have HBY : Hid (B s 3 = y.toNat) := Lib.hid (by unfold B; rw [hy])
        have HI := Lib.hid (HX.out y.toNat y.toNat_lt)
        have HD : Hid (Lib.indexByte hexS.data.toList ((y.toNat : Int)).toNat.toUInt8 = if dg y.toNat = 16 then -1 else (dg y.toNat : Int)) := Lib.hid (dg_index ⟨y.toNat, y.toNat_lt⟩)
        generalize Lib.indexByte hexS.data.toList ((y.toNat : Int)).toNat.toUInt8 = x at HI HD
        have hdl := dg_le y.toNat
        clear hy
        go_wp2_with fail
        refine (HI.out _).mono ?_
        rintro _ w' ⟨rfl, rfl⟩
        by_cases hd : dg y.toNat = 16
        · rw [if_pos hd] at HD
          obtain rfl := HD.out
          have HV : Hid (twoD s = (0, 0, 3)) := Lib.hid (by unfold twoD; rw [if_neg (by omega), if_neg (by omega), if_neg (by omega)]; rw [if_pos (by rw [HBY.out]; exact hd)])
          clear HD hd
          go_wp2
          go_ret3
          exact ⟨by rw [HV.out]; rfl, Grows.refl _⟩
        · rw [if_neg hd] at HD
          obtain rfl := HD.out
          clear HD
          obtain ⟨d, hdd⟩ : ∃ d, d = dg y.toNat := ⟨_, rfl⟩
          rw [← hdd] at hd hdl ⊢
          have HDD : Hid (dg (B s 3) = d) := Lib.hid (by rw [HBY.out, hdd])
          have hdl2 : d < 16 := by omega
          have hdz : ¬ (d : Int) < 0 := by omega
          clear hd hdl hdd
          go_wp2
          exact ⟨⟨trivial, .inr (.inr ⟨by rw [HDD.out, show ((16 * dg (B s 2) + d : Nat) : Int) = (dg (B s 2) : Int) * 16 + (d : Int) by omega], rfl, hk, hd2, by rw [HDD.out]; exact hdl2⟩)⟩, by decide⟩
    · have HV : Hid (twoD s = if formL (16 * dg (B s 2) + dg (B s 3)) = s.data.toList.take 4 then (16 * dg (B s 2) + dg (B s 3), 4, 0) else (0, 0, 3)) := Lib.hid (by unfold twoD; rw [if_neg (by omega), if_neg (by omega), if_neg (by omega), if_neg (by omega)])
      obtain ⟨r, hr⟩ : ∃ r, r = 16 * dg (B s 2) + dg (B s 3) := ⟨_, rfl⟩
      have hr2 : r < 256 := by omega
      rw [← hr] at HV ⊢
      have HE := Lib.hid (fun w' => escaped_any r w' (by omega))
      have hx : s.extract 0 4 = bytes (s.data.toList.take 4) := by rw [ext_list]; rfl
      have HT : Hid (bytes (s.data.toList.take 4) = bytes (formL r) ↔ formL r = s.data.toList.take 4) := Lib.hid (bytes_inj.trans ⟨fun h => h.symm, fun h => h.symm⟩)
      have hs4 : (4 : Int) ≤ (s.size : Int) := by omega
      clear hr hd2 hd3
      generalize bytes (s.data.toList.take 4) = g at hx HT
      generalize bytes (formL r) = f at HE HT
      go_wp2_with fail
      refine (HE.out _).mono ?_
      rintro _ w' ⟨rfl, hg⟩
      have HG := Lib.hid hg
      clear hg HE
      by_cases hf : g = f
      · rw [if_pos (HT.out.1 hf)] at HV
        clear HT
        subst hf
        go_wp2
        go_ret3
        exact ⟨by rw [HV.out]; rfl, HG.out⟩
      · rw [if_neg (fun h => hf (HT.out.2 h))] at HV
        have hf2 : (f.toList == g.toList) = false := str_ne (fun h => hf h.symm)
        clear HT
        go_wp2
        go_ret3
        exact ⟨by rw [HV.out]; rfl, HG.out⟩
end Go.Proofs.YtcmgkmkpkklloaaDoor
