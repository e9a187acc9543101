/-
  Layer 9: the rune whose form a text begins with.
-/
import Derived.Test.YtcmgkmkpkklloaaDoorT15
namespace Go.Proofs.YtcmgkmkpkklloaaDoor
open Go.RowKit Go.Tab Go.WideShapes

/-- The rune whose form a text begins with, its bytes, the error. -/
def unq (s : ByteArray) : Nat × Nat × Nat :=
  if (firstF s 0).2 = 0 then (0, 0, 13) else if (firstF s 0).1 < 32 ∨ (firstF s 0).1 = 127 then (0, 0, 3) else if ¬ (firstF s 0).1 = 92 then ((firstF s 0).1, (firstF s 0).2, 0)
  else if s.size = 1 then (0, 0, 4) else if B s 1 = 92 ∨ B s 1 = 34 then (B s 1, 2, 0) else if B s 1 = 110 then (10, 2, 0) else if B s 1 = 116 then (9, 2, 0)
  else if B s 1 = 120 then twoD s else (0, 0, 3)

set_option maxRecDepth 100000 in
set_option maxHeartbeats 4000000 in
theorem unquoted_any (s : ByteArray) (w : World) (hs : s.size ≤ 1000) (h0 : 0 < s.size) (hT : Tabs w) : Calls Tryd.prog 31 #[.string s] w (Ret (triV (unq s)) w) := by
  have HD := Lib.hid (Proofs.Tryd.utf8_DecodeRuneInString s w hT)
  rw [show Lib.decodeGo s = Utf8.decode s 0 by
    unfold Lib.decodeGo
    rw [if_neg (by omega), dec_at]] at HD
  have HW := Lib.hid (fun w' hT => wrong_any s 0 w' hs h0 hT)
  have HT := Lib.hid hT
  clear hT
  have HDR := Lib.hid (fun h => dec_right (s := s) (i := 0) h0 h)
  have HU : Hid (unq s = _) := Lib.hid (unq.eq_1 s)
  have HV := Lib.hid (first_valid (s := s) (i := 0))
  generalize unq s = uq at HU ⊢
  obtain ⟨⟨r, k⟩, hd⟩ : ∃ d, d = Utf8.decode s 0 := ⟨_, rfl⟩
  rw [← hd] at HD HW HDR
  clear hd
  generalize firstF s 0 = f at HW HDR HU HV
  simp only at HD HW
  go_enter Tryd.func31, Tryd.ntmps31
  go_wp2_with fail
  refine HD.out.mono ?_
  rintro _ w1 ⟨rfl, hg⟩
  have HG1 : Hid (Grows w w1) := Lib.hid hg
  clear hg HD
  go_wp2_with fail
  refine (HW.out _ (HT.out.grows HG1.out)).mono ?_
  rintro _ w2 ⟨rfl, hg⟩
  have HG2 : Hid (Grows w w2) := Lib.hid (HG1.out.trans hg)
  clear hg HW HT HG1
  by_cases hf : f.2 = 0
  · rw [if_pos hf] at HU
    obtain rfl := HU.out
    rw [decide_eq_true hf]
    clear HU hf HDR
    go_wp2
    go_ret3
    exact ⟨rfl, HG2.out⟩
  · rw [if_neg hf] at HU
    rw [decide_eq_false hf]
    obtain rfl := HDR.out hf
    clear HDR hf
    simp only at HU HV
    by_cases h1 : r < 32 ∨ r = 127
    · rw [if_pos h1] at HU
      obtain rfl := HU.out
      rcases h1 with h1 | h1
      · have hz : (r : Int) < 32 := by omega
        clear HU h1
        go_wp2
        go_ret3
        exact ⟨rfl, HG2.out⟩
      · subst h1
        clear HU
        go_wp2
        go_ret3
        exact ⟨rfl, HG2.out⟩
    · rw [if_neg h1] at HU
      have z1 : ¬ (r : Int) < 32 := by omega
      have z2 : ¬ (r : Int) = 127 := by omega
      clear h1
      by_cases h2 : r = 92
      · subst h2
        rw [if_neg (by decide)] at HU
        clear z1 z2
        by_cases h3 : s.size = 1
        · rw [if_pos h3] at HU
          obtain rfl := HU.out
          have hz : (s.size : Int) = 1 := by omega
          clear h3 HU
          go_wp2
          go_ret3
          exact ⟨rfl, HG2.out⟩
        · rw [if_neg h3] at HU
          have hz : ¬ (s.size : Int) = 1 := by omega
          have hz2 : (1 : Int) < (s.size : Int) := by omega
          have hk : 1 < s.size := by omega
          have HTW := Lib.hid (fun w' => two_any s w' hs (by omega))
          obtain ⟨y, hy⟩ : ∃ y, s.get! 1 = y := ⟨_, rfl⟩
          have hsy : s[1]'hk = y := by rw [← hy]; exact (Utf8W.get!_of_lt s 1 hk).symm
          have HBY : B s 1 = y.toNat := by unfold B; rw [hy]
          rw [HBY] at HU
          clear HBY hy h3
          have hy8 := y.toNat_lt
          obtain ⟨c, hc⟩ : ∃ c, c = y.toNat := ⟨_, rfl⟩
          rw [← hc] at HU hy8
          by_cases c1 : c = 92
          · rw [if_pos (.inl c1)] at HU
            obtain rfl := HU.out
            have hcz : (y.toNat : Int) = 92 := by omega
            subst c1
            clear HU hc
            go_wp2
            go_ret3
            exact ⟨rfl, HG2.out⟩
          by_cases c2 : c = 34
          · rw [if_pos (.inr c2)] at HU
            obtain rfl := HU.out
            have hcz : (y.toNat : Int) = 34 := by omega
            subst c2
            clear HU hc
            go_wp2
            go_ret3
            exact ⟨rfl, HG2.out⟩
          rw [if_neg (by omega)] at HU
          have d1 : ¬ (y.toNat : Int) = 92 := by omega
          have d2 : ¬ (y.toNat : Int) = 34 := by omega
          clear c1 c2
          by_cases c3 : c = 110
          · rw [if_pos c3] at HU
            obtain rfl := HU.out
            have hcz : (y.toNat : Int) = 110 := by omega
            clear HU hc c3 d1 d2
            go_wp2
            go_ret3
            exact ⟨rfl, HG2.out⟩
          rw [if_neg c3] at HU
          have d3 : ¬ (y.toNat : Int) = 110 := by omega
          clear c3
          by_cases c4 : c = 116
          · rw [if_pos c4] at HU
            obtain rfl := HU.out
            have hcz : (y.toNat : Int) = 116 := by omega
            clear HU hc c4 d1 d2 d3
            go_wp2
            go_ret3
            exact ⟨rfl, HG2.out⟩
          rw [if_neg c4] at HU
          have d4 : ¬ (y.toNat : Int) = 116 := by omega
          clear c4
          by_cases c5 : c = 120
          · rw [if_pos c5] at HU
            have hcz : (y.toNat : Int) = 120 := by omega
            clear hc c5 d1 d2 d3 d4
            generalize twoD s = td at HU HTW
            obtain rfl := HU.out
            go_wp2_with fail
            refine (HTW.out _).mono ?_
            rintro _ w3 ⟨rfl, hg⟩
            have HG3 : Hid (Grows w w3) := Lib.hid (HG2.out.trans hg)
            clear hg HTW
            obtain ⟨a, b, c⟩ := uq
            unfold triV
            go_wp2
            go_ret3
            exact ⟨rfl, HG3.out⟩
          · rw [if_neg c5] at HU
            obtain rfl := HU.out
            have d5 : ¬ (y.toNat : Int) = 120 := by omega
            clear HU hc c5
            go_wp2
            go_ret3
            exact ⟨rfl, HG2.out⟩
      · rw [if_pos h2] at HU
        obtain rfl := HU.out
        have hz : ¬ (r : Int) = 92 := by omega
        have z3 : (decide ((r : Int) < 32) || (r : Int) == 127) = false := by
          rw [decide_eq_false z1, beq_eq_false_iff_ne.2 z2]; rfl
        clear HU h2
        go_wp2
        go_ret3
        exact ⟨rfl, HG2.out⟩
end Go.Proofs.YtcmgkmkpkklloaaDoor
