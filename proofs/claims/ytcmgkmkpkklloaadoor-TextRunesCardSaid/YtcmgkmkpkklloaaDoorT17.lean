/-
  Layer 9: the text whose quoted form a text begins with: the program's.
-/
import Derived.Test.YtcmgkmkpkklloaaDoorT16
import Derived.WalkMore
import Derived.ScopeJumps
namespace Go.Proofs.YtcmgkmkpkklloaaDoor
open Go.RowKit Go.Tab Go.WideShapes

theorem enc_len (r : Nat) : (Lib.encodeRune (r : Int)).length ≤ 4 := by
  have := Lib.encodeRuneZ_length (r : Int)
  unfold Lib.encodeRune
  rw [List.length_map]; omega
theorem unq_ok (t : ByteArray) (h : 0 < t.size) : (unq t).2.2 = 0 → 1 ≤ (unq t).2.1 ∧ (unq t).2.1 ≤ t.size ∧ (unq t).1 ≤ 1114111 := by
  have hw := first_width h
  have hv := first_valid (s := t) (i := 0)
  have h8 := B_lt t 1
  unfold okRune at hv
  unfold unq
  split
  · intro h; simp at h
  · split
    · intro h; simp at h
    · split
      · intro _; dsimp only; omega
      · split
        · intro h; simp at h
        · split
          · intro _; dsimp only; omega
          · split
            · intro _; dsimp only; omega
            · split
              · intro _; dsimp only; omega
              · split
                · unfold twoD
                  have h2 := dg_le (B t 2)
                  have h3 := dg_le (B t 3)
                  split
                  · intro h; simp at h
                  · split
                    · intro h; simp at h
                    · split
                      · intro h; simp at h
                      · split
                        · intro h; simp at h
                        · split
                          · intro _; dsimp only; omega
                          · intro h; simp at h
                · intro h; simp at h
/-- From a place on: the text so far, the bytes, the error. -/
def uqGo (s : ByteArray) : Nat → Nat → List UInt8 → List UInt8 × Nat × Nat
  | 0, _, _ => ([], 0, 4)
  | n + 1, p, acc =>
    if p < s.size then
      if B s p = 34 then (acc, p + 1, 0)
      else if (unq (s.extract p s.size)).2.2 = 0 then uqGo s n (p + (unq (s.extract p s.size)).2.1) (acc ++ Lib.encodeRune ((unq (s.extract p s.size)).1 : Int)) else ([], 0, (unq (s.extract p s.size)).2.2)
    else ([], 0, 4)
def unquoteT (s : ByteArray) : List UInt8 × Nat × Nat := if s.size = 0 then ([], 0, 4) else if B s 0 = 34 then uqGo s s.size 1 [] else ([], 0, 3)
def txtV (t : List UInt8 × Nat × Nat) : Value := .tuple #[.string (bytes t.1), .int .i64 (t.2.1 : Int), .int .i64 (t.2.2 : Int)]
/-- What the rounds that are left tell. -/
def Left (s : ByteArray) (p : Nat) (acc : List UInt8) (t : List UInt8 × Nat × Nat) : Prop := ∃ n, s.size ≤ n + p ∧ t = uqGo s (n + 1) p acc
theorem uqGo_out {s : ByteArray} {p : Nat} {acc : List UInt8} {t : List UInt8 × Nat × Nat} (h : ¬ p < s.size) (hl : Left s p acc t) : t = ([], 0, 4) := by
  obtain ⟨n, -, rfl⟩ := hl
  unfold uqGo
  rw [if_neg h]
theorem uqGo_end {s : ByteArray} {p : Nat} {acc : List UInt8} {t : List UInt8 × Nat × Nat} (_h0 : 0 < 1) (h : p < s.size) (hq : B s p = 34) (hl : Left s p acc t) : t = (acc, p + 1, 0) := by
  obtain ⟨n, -, rfl⟩ := hl
  unfold uqGo
  rw [if_pos h, if_pos hq]
theorem uqGo_step {s : ByteArray} {p : Nat} {acc : List UInt8} {t : List UInt8 × Nat × Nat} (_h0 : 0 < 1) (h : p < s.size) (hq : ¬ B s p = 34) (hl : Left s p acc t) :
    ((unq (s.extract p s.size)).2.2 = 0 → Left s (p + (unq (s.extract p s.size)).2.1) (acc ++ Lib.encodeRune ((unq (s.extract p s.size)).1 : Int)) t) ∧ (¬ (unq (s.extract p s.size)).2.2 = 0 → t = ([], 0, (unq (s.extract p s.size)).2.2)) := by
  obtain ⟨n, hn, rfl⟩ := hl
  refine ⟨fun h0 => ?_, fun h0 => ?_⟩
  · have hk := (unq_ok (s.extract p s.size) (by rw [ByteArray.size_extract]; omega) h0).1
    refine ⟨n - 1, by omega, ?_⟩
    conv => lhs; unfold uqGo
    rw [if_pos h, if_neg hq, if_pos h0, show n = n - 1 + 1 by omega]
    rfl
  · unfold uqGo
    rw [if_pos h, if_neg hq, if_neg h0]

set_option maxRecDepth 100000 in
set_option maxHeartbeats 4000000 in
theorem unquote_any (s : ByteArray) (w : World) (hs : s.size ≤ 1000) (hT : Tabs w) : Calls Tryd.prog 17 #[.string s] w (Ret (txtV (unquoteT s)) w) := by
  have HT := Lib.hid hT
  clear hT
  have HUT : Hid (unquoteT s = _) := Lib.hid (unquoteT.eq_1 s)
  generalize unquoteT s = ut at HUT ⊢
  have HB : Hid (Holds w.heap.size [] (w.alloc (.cells #[.pointer none, .slice none 0 0] 60))) := Lib.hid (Lib.IsBuilderF.of (Lib.fresh_isBuilder 60 5 w))
  have HG : Hid (Grows w (w.alloc (.cells #[.pointer none, .slice none 0 0] 60))) := Lib.hid (Grows.alloc _ _)
  go_enter Tryd.func17, Tryd.ntmps17
  go_wp2
  refine wp_scope_jumps 0 (fun a' w' => ∃ (p : Nat) (acc : List UInt8) (u7 u8 u9 u10 u11 u12 u13 u14 u15 u16 u17 u18 u19 u20 u21 u22 u23 u24 u25 u26 u27 u28 u29 u30 u31 u32 u33 u34 u35 u36 u37 u38 u39 u40 u41 : Value), a' = { tmps := #[.string s, undef, .string ⟨#[]⟩, .int .i64 0, .int .i64 0, .pointer (some ⟨w.heap.size, 0, none⟩), .int .i64 (p : Int), u7, u8, u9, u10, u11, u12, u13, u14, u15, u16, u17, u18, u19, u20, u21, u22, u23, u24, u25, u26, u27, u28, u29, u30, u31, u32, u33, u34, u35, u36, u37, u38, u39, u40, u41], defers := [] } ∧ p ≤ s.size ∧ Hid (Left s p acc ut) ∧ Hid (acc.length ≤ 4 * p) ∧ Hid (Holds w.heap.size acc w') ∧ Hid (Grows w w')) (fun a' _ => s.size - (intOf (a'.tmps.getD 6 undef)).toNat) rfl ?_ ?_
  · by_cases h0 : s.size = 0
    · rw [if_pos h0] at HUT
      obtain rfl := HUT.out
      have hse : s = ⟨#[]⟩ := ByteArray.ext (Array.eq_empty_of_size_eq_zero h0)
      subst hse
      go_wp2
      simp only [Exit.jump]
      go_ret3
      exact ⟨rfl, HG.out⟩
    · have hsn : ¬ s = ⟨#[]⟩ := fun h => h0 (by rw [h]; rfl)
      have hsn2 : (s.toList == ([] : List UInt8)) = false := by
        have h := str_ne hsn
        rwa [show (⟨#[]⟩ : ByteArray).toList = [] by rw [ByteArray.toList_eq]] at h
      rw [if_neg h0] at HUT
      have hz0 : (0 : Int) < (s.size : Int) := by omega
      have hl0 : 0 < s.size := by omega
      obtain ⟨y0, hy0⟩ : ∃ y, s.get! 0 = y := ⟨_, rfl⟩
      have hsy0 : s[0]'hl0 = y0 := by rw [← hy0]; exact (Utf8W.get!_of_lt s 0 hl0).symm
      have HB0 : Hid (B s 0 = y0.toNat) := Lib.hid (by unfold B; rw [hy0])
      clear hy0
      by_cases hq0 : y0.toNat = 34
      · rw [if_pos (HB0.out.trans hq0)] at HUT
        have hqz0 : (y0.toNat : Int) = 34 := by omega
        have HU : Hid (Left s 1 [] ut) := Lib.hid ⟨s.size - 1, by omega, by rw [show s.size - 1 + 1 = s.size by omega]; exact HUT.out⟩
        have HAL : Hid (([] : List UInt8).length ≤ 4 * 1) := Lib.hid (by decide)
        clear h0 HUT HB0 hq0
        go_wp2
        go_step3
        by_cases hlt : 1 < s.size
        · have hz : ¬ (1 : Int) = (s.size : Int) := by omega
          have hz2 : (1 : Int) < (s.size : Int) := by omega
          obtain ⟨y, hy⟩ : ∃ y, s.get! 1 = y := ⟨_, rfl⟩
          have hsy : s[1]'hlt = y := by rw [← hy]; exact (Utf8W.get!_of_lt s 1 hlt).symm
          have HBY : Hid (B s 1 = y.toNat) := Lib.hid (by unfold B; rw [hy])
          clear hy
          by_cases hq : y.toNat = 34
          · have hqz : (y.toNat : Int) = 34 := by omega
            have HV := Lib.hid (uqGo_end (by omega) hlt (HBY.out.trans hq) (HU.out))
            have HST := Lib.hid (Proofs.Tryd.Builder_String_any_k w.heap.size w.heap.size [] _ HB.out HG.out.size)
            clear hq HBY
            go_wp2_with fail
            refine HST.out.mono ?_
            rintro _ wg ⟨rfl, -, hg, -⟩
            have HG3 : Hid (Grows w wg) := Lib.hid (Below.trans HG.out hg)
            clear hg HST
            go_wp2
            simp only [Exit.jump]
            go_ret3
            exact ⟨by rw [HV.out]; rfl, HG3.out⟩
          · have hqz : ¬ (y.toNat : Int) = 34 := by omega
            have HS := Lib.hid (uqGo_step (by omega) hlt (by rw [HBY.out]; exact hq) (HU.out))
            have hxs : (s.extract 1 s.size).size = s.size - 1 := by rw [ByteArray.size_extract]; omega
            have HC := Lib.hid (fun w' hT => unquoted_any (s.extract 1 s.size) w' (by omega) (by omega) hT)
            have HOK := Lib.hid (unq_ok (s.extract 1 s.size) (by omega))
            rw [hxs] at HOK
            clear hxs hq
            obtain ⟨⟨r, k, e⟩, ht⟩ : ∃ t, t = unq (s.extract 1 s.size) := ⟨_, rfl⟩
            rw [← ht] at HS HC HOK
            simp only [triV] at HS HC HOK
            clear ht
            go_wp2_with fail
            refine (HC.out _ (HT.out.grows HG.out)).mono ?_
            rintro _ wf ⟨rfl, hg⟩
            have HB5 := Lib.hid (HB.out.grows hg)
            have HG5 : Hid (Grows w wf) := Lib.hid (HG.out.trans hg)
            clear hg HC
            by_cases he : e = 0
            · subst he
              have HS2 := Lib.hid (HS.out.1 rfl)
              have HOK2 := Lib.hid (HOK.out rfl)
              have hk1 := HOK2.out.1
              have hk2 := HOK2.out.2.1
              have HWR := Lib.hid (wrune_any w.heap.size [] (r : Int) wf HB5.out (by have := HAL.out; omega) (by omega) (by have := HOK2.out.2.2; omega))
              have HEL := Lib.hid (enc_len r)
              generalize Lib.encodeRune (r : Int) = er at HWR HEL HS2
              clear HS HOK
              go_wp2_with fail
              refine HWR.out.mono ?_
              rintro _ wg ⟨rfl, hh, hk⟩
              have HG6 : Hid (Grows w wg) := Lib.hid (Below.trans HG5.out hk.1)
              have HB6 : Hid (Holds w.heap.size ([] ++ er) wg) := Lib.hid hh
              have HA6 : Hid (([] ++ er).length ≤ 4 * (1 + k)) := Lib.hid (by rw [List.length_append]; have := HAL.out; have := HEL.out; omega)
              clear hh hk HWR HB5 HG5
              go_wp2
              go_step3
              refine ⟨rfl, 1 + k, [] ++ er, _, _, _, _, _, _, _, _, _, _, _, _, _, _, _, _, _, _, _, _, _, _, _, _, _, _, _, _, _, _, _, _, _, _, _, by first | rfl | (rw [show ((1 + k : Nat) : Int) = 1 + (k : Int) by omega]), by omega, HS2, HA6, HB6, HG6⟩
            · have HV := Lib.hid (HS.out.2 he)
              have hez : ¬ (e : Int) = 0 := by omega
              clear he HS
              go_wp2
              simp only [Exit.jump]
              go_ret3
              exact ⟨by rw [HV.out]; rfl, HG5.out⟩
        · have hz : (s.size : Int) = 1 := by omega
          have HV := Lib.hid (uqGo_out hlt (HU.out))
          clear hlt
          go_wp2
          simp only [Exit.jump]
          go_ret3
          exact ⟨by rw [HV.out]; rfl, HG.out⟩
      · rw [if_neg (fun h => hq0 (HB0.out.symm.trans h))] at HUT
        obtain rfl := HUT.out
        have hqz0 : ¬ (y0.toNat : Int) = 34 := by omega
        clear hq0 HUT
        go_wp2
        simp only [Exit.jump]
        go_ret3
        exact ⟨rfl, HG.out⟩
  · clear HB HG HUT
    rintro a' w' ⟨p, acc, u7, u8, u9, u10, u11, u12, u13, u14, u15, u16, u17, u18, u19, u20, u21, u22, u23, u24, u25, u26, u27, u28, u29, u30, u31, u32, u33, u34, u35, u36, u37, u38, u39, u40, u41, rfl, hp, HU, HAL, HB, HG⟩
    by_cases hlt : p < s.size
    · have hz : ¬ (p : Int) = (s.size : Int) := by omega
      have hz2 : (p : Int) < (s.size : Int) := by omega
      obtain ⟨y, hy⟩ : ∃ y, s.get! p = y := ⟨_, rfl⟩
      have hsy : s[p]'hlt = y := by rw [← hy]; exact (Utf8W.get!_of_lt s p hlt).symm
      have HBY : Hid (B s p = y.toNat) := Lib.hid (by unfold B; rw [hy])
      clear hy
      by_cases hq : y.toNat = 34
      · have hqz : (y.toNat : Int) = 34 := by omega
        have HV := Lib.hid (uqGo_end (by omega) hlt (HBY.out.trans hq) (HU.out))
        have HST := Lib.hid (Proofs.Tryd.Builder_String_any_k w.heap.size w.heap.size acc _ HB.out HG.out.size)
        clear hq HBY
        go_wp2_with fail
        refine HST.out.mono ?_
        rintro _ wg ⟨rfl, -, hg, -⟩
        have HG3 : Hid (Grows w wg) := Lib.hid (Below.trans HG.out hg)
        clear hg HST
        go_wp2
        simp only [Exit.jump]
        go_ret3
        exact ⟨by rw [HV.out]; rfl, HG3.out⟩
      · have hqz : ¬ (y.toNat : Int) = 34 := by omega
        have HS := Lib.hid (uqGo_step (by omega) hlt (by rw [HBY.out]; exact hq) (HU.out))
        have hxs : (s.extract p s.size).size = s.size - p := by rw [ByteArray.size_extract]; omega
        have HC := Lib.hid (fun w' hT => unquoted_any (s.extract p s.size) w' (by omega) (by omega) hT)
        have HOK := Lib.hid (unq_ok (s.extract p s.size) (by omega))
        rw [hxs] at HOK
        clear hxs hq
        obtain ⟨⟨r, k, e⟩, ht⟩ : ∃ t, t = unq (s.extract p s.size) := ⟨_, rfl⟩
        rw [← ht] at HS HC HOK
        simp only [triV] at HS HC HOK
        clear ht
        go_wp2_with fail
        refine (HC.out _ (HT.out.grows HG.out)).mono ?_
        rintro _ wf ⟨rfl, hg⟩
        have HB5 := Lib.hid (HB.out.grows hg)
        have HG5 : Hid (Grows w wf) := Lib.hid (HG.out.trans hg)
        clear hg HC
        by_cases he : e = 0
        · subst he
          have HS2 := Lib.hid (HS.out.1 rfl)
          have HOK2 := Lib.hid (HOK.out rfl)
          have hk1 := HOK2.out.1
          have hk2 := HOK2.out.2.1
          have HWR := Lib.hid (wrune_any w.heap.size acc (r : Int) wf HB5.out (by have := HAL.out; omega) (by omega) (by have := HOK2.out.2.2; omega))
          have HEL := Lib.hid (enc_len r)
          generalize Lib.encodeRune (r : Int) = er at HWR HEL HS2
          clear HS HOK
          go_wp2_with fail
          refine HWR.out.mono ?_
          rintro _ wg ⟨rfl, hh, hk⟩
          have HG6 : Hid (Grows w wg) := Lib.hid (Below.trans HG5.out hk.1)
          have HB6 : Hid (Holds w.heap.size (acc ++ er) wg) := Lib.hid hh
          have HA6 : Hid ((acc ++ er).length ≤ 4 * (p + k)) := Lib.hid (by rw [List.length_append]; have := HAL.out; have := HEL.out; omega)
          clear hh hk HWR HB5 HG5
          go_wp2
          go_step3
          refine ⟨rfl, ⟨p + k, acc ++ er, _, _, _, _, _, _, _, _, _, _, _, _, _, _, _, _, _, _, _, _, _, _, _, _, _, _, _, _, _, _, _, _, _, _, _, by first | rfl | (rw [show ((p + k : Nat) : Int) = (p : Int) + (k : Int) by omega]), by omega, HS2, HA6, HB6, HG6⟩, ?_⟩
          simp [intOf]; omega
        · have HV := Lib.hid (HS.out.2 he)
          have hez : ¬ (e : Int) = 0 := by omega
          clear he HS
          go_wp2
          simp only [Exit.jump]
          go_ret3
          exact ⟨by rw [HV.out]; rfl, HG5.out⟩
    · have hz : (s.size : Int) = p := by omega
      have HV := Lib.hid (uqGo_out hlt (HU.out))
      clear hlt
      go_wp2
      simp only [Exit.jump]
      go_ret3
      exact ⟨by rw [HV.out]; rfl, HG.out⟩
end Go.Proofs.YtcmgkmkpkklloaaDoor
