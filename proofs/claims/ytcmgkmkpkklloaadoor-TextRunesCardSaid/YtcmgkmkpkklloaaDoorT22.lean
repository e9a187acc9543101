/-
  Layer 9: the law TextRunes, walked.
-/
import Derived.Test.YtcmgkmkpkklloaaDoorT21
namespace Go.Proofs.YtcmgkmkpkklloaaDoor
open Go.RowKit Go.Tab Go.WideShapes

theorem snds_get {l : List (Nat × Nat)} {k : Nat} (hk : k < l.length) : (snds l).getD k 0 = (l[k].2 : Int) := by
  unfold snds
  rw [List.getD_eq_getElem?_getD, List.getElem?_map, List.getElem?_eq_getElem hk]; rfl
theorem place_le {s : ByteArray} : ∀ (n i : Nat) (l : List (Nat × Nat)), s.size - i ≤ n → runesW s i = some l → ∀ p ∈ l, p.2 ≤ s.size := by
  intro n
  induction n with
  | zero =>
    intro i l hn h p hp
    rw [runesW_end (by omega)] at h
    injection h with h; subst h; cases hp
  | succ n ih =>
    intro i l hn h p hp
    by_cases hi : i < s.size
    · by_cases h2 : (firstF s i).2 = 0
      · rw [runesW_bad hi h2] at h; cases h
      · rw [runesW_step hi h2] at h
        cases ht : runesW s (i + (firstF s i).2) with
        | none => rw [ht] at h; cases h
        | some t =>
          rw [ht] at h
          simp only [Option.map_some, Option.some.injEq] at h
          subst h
          rcases List.mem_cons.1 hp with rfl | hp
          · dsimp only; omega
          · exact ih _ t (by omega) ht p hp
    · rw [runesW_end hi] at h
      injection h with h; subst h; cases hp
theorem cut_zero {s : ByteArray} {l : List (Nat × Nat)} {n : Int} (h : runesW s 0 = some l) (hn : n ≤ 0) (hl : l ≠ []) : cutT s n = ⟨#[]⟩ := by
  unfold cutT
  rw [h]
  simp only
  rw [show n.toNat = 0 by omega]
  cases l with
  | nil => exact absurd rfl hl
  | cons p t =>
    have := (place_zero h (i := 0) (by simp)).2 rfl
    simp only [List.getElem?_cons_zero, List.getElem_cons_zero] at this ⊢
    rw [this, ext_list]; rfl
theorem cut_out {s : ByteArray} {l : List (Nat × Nat)} {n : Int} (h : runesW s 0 = some l) (hn : (l.length : Int) ≤ n) : cutT s n = s := by
  unfold cutT
  rw [h]
  simp only
  rw [List.getElem?_eq_none (by omega)]
theorem cut_in {s : ByteArray} {l : List (Nat × Nat)} {k : Nat} (h : runesW s 0 = some l) (hn : k < l.length) : cutT s (k : Int) = s.extract 0 l[k].2 := by
  unfold cutT
  rw [h]
  simp only [Int.toNat_natCast]
  rw [List.getElem?_eq_getElem hn]
theorem cut_bad {s : ByteArray} {n : Int} (h : runesW s 0 = none) : cutT s n = ⟨#[]⟩ := by
  unfold cutT
  rw [h]; rfl
theorem cut_nil {s : ByteArray} (h : runesW s 0 = some []) : s = ⟨#[]⟩ := by
  by_cases h0 : 0 < s.size
  · by_cases h2 : (firstF s 0).2 = 0
    · rw [runesW_bad h0 h2] at h; cases h
    · rw [runesW_step h0 h2] at h
      cases ht : runesW s (0 + (firstF s 0).2) with
      | none => rw [ht] at h; cases h
      | some t => rw [ht] at h; simp at h
  · exact ByteArray.ext (Array.eq_empty_of_size_eq_zero (by show s.size = 0; omega))
theorem cut_emp {s : ByteArray} {n : Int} (h : runesW s 0 = some []) : cutT s n = ⟨#[]⟩ := by
  have hs := cut_nil h
  unfold cutT
  rw [h]
  simpa using hs

set_option maxRecDepth 100000 in
set_option maxHeartbeats 4000000 in
theorem runes_law (t : ByteArray) (n : Int) (w : World) (hn1 : -9223372036854775808 ≤ n) (hn2 : n ≤ 9223372036854775807) (hT : Tabs w) : Calls Tryd.prog 3 #[.string t, .int .i64 n] w (Ret (.bool true) w) := by
  have HCT := Lib.hid (lcut_any t w)
  have hs0 := cutB_size t
  generalize cutB t = s at HCT hs0
  have hs : s.size ≤ 1000 := by omega
  have HT := Lib.hid hT
  have HR := Lib.hid (fun w' => runes_any s w' hs)
  have HC := Lib.hid (fun w' hT => count_any s w' hs hT)
  have HK := Lib.hid (fun w' hT => known9_any w' hT)
  have HI := Lib.hid (fun w' hT => right_any s w' hs hT)
  have HU := Lib.hid (fun w' hT => cut_any s n w' hs hn1 hn2 hT)
  have HN := Lib.hid (fun w' hT => name_any s w' hs hT)
  have HN2 := Lib.hid (fun w' => rname_any s w' hs)
  clear hT
  go_enter Tryd.func3, Tryd.ntmps3
  go_wp2_with fail
  refine HCT.out.mono ?_
  rintro _ w1 ⟨rfl, hg⟩
  have HG0 := Lib.hid hg
  clear hg HCT
  have HXL : Hid (∀ l, runesW s 0 = some l → ∀ i (h : i < l.length), l[i].2 ≤ s.size) := Lib.hid (fun l h i hi => place_le s.size 0 l (by omega) h _ (List.getElem_mem hi))
  generalize nameT s = nm at HN HN2
  go_wp2_with fail
  refine (HR.out _).mono ?_
  rintro e w2 (⟨hn, rfl, hg⟩ | ⟨l, u, v, hl, rfl, hu, hv, hg⟩)
  · have HG1 := Lib.hid (HG0.out.trans hg)
    have e1 : rightT s = false := by unfold rightT; rw [hn]; rfl
    have e2 : cntT s = 0 := by unfold cntT; rw [hn]; rfl
    rw [e1] at HC HI
    rw [e2] at HC
    rw [cut_bad hn] at HU
    clear hg HR HG0 hn e1 e2 HXL
    go_wp2_with fail
    refine (HC.out _ (HT.out.grows HG1.out)).mono ?_
    rintro _ w3 ⟨rfl, hg⟩
    have HG2 := Lib.hid (HG1.out.trans hg)
    clear hg HC HG1
    by_cases hn0 : n < 0
    · have hn00 : ¬ 0 < n := by omega
      go_wp2_with fail
      refine (HK.out _ (HT.out.grows HG2.out)).mono ?_
      rintro _ wx0 ⟨rfl, hg⟩
      have HGx0 : Hid (Grows w _) := Lib.hid (HG2.out.trans hg)
      clear hg
      go_wp2_with fail
      refine (HI.out _ (HT.out.grows HGx0.out)).mono ?_
      rintro _ wx1 ⟨rfl, hg⟩
      have HGx1 : Hid (Grows w _) := Lib.hid (HGx0.out.trans hg)
      clear hg
      go_wp2_with fail
      refine (HU.out _ (HT.out.grows HGx1.out)).mono ?_
      rintro _ wx2 ⟨rfl, hg⟩
      have HGx2 : Hid (Grows w _) := Lib.hid (HGx1.out.trans hg)
      clear hg
      go_wp2_with fail
      refine (HN.out _ (HT.out.grows HGx2.out)).mono ?_
      rintro _ wx3 ⟨rfl, hg⟩
      have HGx3 : Hid (Grows w _) := Lib.hid (HGx2.out.trans hg)
      clear hg
      go_wp2_with fail
      refine (HN2.out _).mono ?_
      rintro _ wx4 ⟨rfl, hg⟩
      have HGx4 : Hid (Grows w _) := Lib.hid (HGx3.out.trans hg)
      clear hg
      go_wp2
      go_ret
      exact ⟨ret_bool' (by simp), HGx4.out⟩
    · skip
      go_wp2_with fail
      refine (HK.out _ (HT.out.grows HG2.out)).mono ?_
      rintro _ wx0 ⟨rfl, hg⟩
      have HGx0 : Hid (Grows w _) := Lib.hid (HG2.out.trans hg)
      clear hg
      go_wp2_with fail
      refine (HI.out _ (HT.out.grows HGx0.out)).mono ?_
      rintro _ wx1 ⟨rfl, hg⟩
      have HGx1 : Hid (Grows w _) := Lib.hid (HGx0.out.trans hg)
      clear hg
      go_wp2_with fail
      refine (HU.out _ (HT.out.grows HGx1.out)).mono ?_
      rintro _ wx2 ⟨rfl, hg⟩
      have HGx2 : Hid (Grows w _) := Lib.hid (HGx1.out.trans hg)
      clear hg
      go_wp2_with fail
      refine (HN.out _ (HT.out.grows HGx2.out)).mono ?_
      rintro _ wx3 ⟨rfl, hg⟩
      have HGx3 : Hid (Grows w _) := Lib.hid (HGx2.out.trans hg)
      clear hg
      go_wp2_with fail
      refine (HN2.out _).mono ?_
      rintro _ wx4 ⟨rfl, hg⟩
      have HGx4 : Hid (Grows w _) := Lib.hid (HGx3.out.trans hg)
      clear hg
      go_wp2
      go_ret
      exact ⟨ret_bool' (by simp), HGx4.out⟩
  · have HG1 := Lib.hid (HG0.out.trans hg)
    have e1 : rightT s = true := by unfold rightT; rw [hl]; rfl
    have e2 : cntT s = l.length := by unfold cntT; rw [hl]; rfl
    rw [e1] at HC HI
    rw [e2] at HC
    have HV := Lib.hid hv
    obtain ⟨au, cu, rfl, -, -⟩ := hu.shape
    obtain ⟨av, cv, rfl, hcv, -⟩ := hv.shape
    have hlen : (fsts l).length = l.length := by simp [fsts]
    have hlen2 : (snds l).length = l.length := by simp [snds]
    rw [hlen2] at hcv HV
    rw [hlen, hlen2]
    have HX := Lib.hid (HXL.out l hl)
    have HC0 := Lib.hid (fun h h2 => cut_zero (n := n) hl h h2)
    have HC1 := Lib.hid (fun h => cut_out (n := n) hl h)
    have HC2 := Lib.hid (fun k h => cut_in (k := k) hl h)
    have HC3 : Hid (l = [] → cutT s n = ⟨#[]⟩) := Lib.hid (fun h => cut_emp (by rw [hl, h]))
    clear hg HR HG0 hl e1 e2 HXL hu hv hlen hlen2
    obtain ⟨m, hm⟩ : ∃ m, m = l.length := ⟨_, rfl⟩
    rw [← hm] at hcv HV HC HC1 ⊢
    have HM := Lib.hid hm
    clear hm
    go_wp2_with fail
    refine (HC.out _ (HT.out.grows HG1.out)).mono ?_
    rintro _ w3 ⟨rfl, hg⟩
    have HG2 := Lib.hid (HG1.out.trans hg)
    have HV3 := Lib.hid (HV.out.grows hg)
    clear hg HC HG1 HV
    by_cases hnm : n < (m : Int)
    · by_cases hn0 : 0 < n
      · obtain ⟨k, rfl⟩ : ∃ k : Nat, n = (k : Int) := ⟨n.toNat, by omega⟩
        have hkl : k < l.length := by rw [← HM.out]; omega
        obtain ⟨b, o, rfl, hb, hc⟩ := HV3.out.at_ (i := k) (by simp [snds]; exact hkl)
        rw [snds_get hkl] at hc
        have HE := Lib.hid (HC2.out k hkl)
        have hpl := HX.out k hkl
        rw [HE.out] at HU
        obtain ⟨p, hp⟩ : ∃ p, p = l[k].2 := ⟨_, rfl⟩
        rw [← hp] at hc hpl HU
        have hplz : (p : Int) ≤ (s.size : Int) := by omega
        clear hp HE hpl HC0 HC1 HC2 HC3 HX HM hkl
        go_wp2_with fail
        refine (HK.out _ (HT.out.grows HG2.out)).mono ?_
        rintro _ wx0 ⟨rfl, hg⟩
        have HGx0 : Hid (Grows w _) := Lib.hid (HG2.out.trans hg)
        clear hg
        go_wp2_with fail
        refine (HI.out _ (HT.out.grows HGx0.out)).mono ?_
        rintro _ wx1 ⟨rfl, hg⟩
        have HGx1 : Hid (Grows w _) := Lib.hid (HGx0.out.trans hg)
        clear hg
        go_wp2_with fail
        refine (HU.out _ (HT.out.grows HGx1.out)).mono ?_
        rintro _ wx2 ⟨rfl, hg⟩
        have HGx2 : Hid (Grows w _) := Lib.hid (HGx1.out.trans hg)
        clear hg
        go_wp2_with fail
        refine (HN.out _ (HT.out.grows HGx2.out)).mono ?_
        rintro _ wx3 ⟨rfl, hg⟩
        have HGx3 : Hid (Grows w _) := Lib.hid (HGx2.out.trans hg)
        clear hg
        go_wp2_with fail
        refine (HN2.out _).mono ?_
        rintro _ wx4 ⟨rfl, hg⟩
        have HGx4 : Hid (Grows w _) := Lib.hid (HGx3.out.trans hg)
        clear hg
        go_wp2
        go_ret
        exact ⟨ret_bool' (by simp), HGx4.out⟩
      · have hn00 : ¬ 0 < n := hn0
        have HE : Hid (cutT s n = ⟨#[]⟩) := Lib.hid (by
          by_cases h : l = []
          · exact HC3.out h
          · exact HC0.out (by omega) h)
        rw [HE.out] at HU
        clear HE HC0 HC1 HC2 HC3 HX HM HV3
        go_wp2_with fail
        refine (HK.out _ (HT.out.grows HG2.out)).mono ?_
        rintro _ wx0 ⟨rfl, hg⟩
        have HGx0 : Hid (Grows w _) := Lib.hid (HG2.out.trans hg)
        clear hg
        go_wp2_with fail
        refine (HI.out _ (HT.out.grows HGx0.out)).mono ?_
        rintro _ wx1 ⟨rfl, hg⟩
        have HGx1 : Hid (Grows w _) := Lib.hid (HGx0.out.trans hg)
        clear hg
        go_wp2_with fail
        refine (HU.out _ (HT.out.grows HGx1.out)).mono ?_
        rintro _ wx2 ⟨rfl, hg⟩
        have HGx2 : Hid (Grows w _) := Lib.hid (HGx1.out.trans hg)
        clear hg
        go_wp2_with fail
        refine (HN.out _ (HT.out.grows HGx2.out)).mono ?_
        rintro _ wx3 ⟨rfl, hg⟩
        have HGx3 : Hid (Grows w _) := Lib.hid (HGx2.out.trans hg)
        clear hg
        go_wp2_with fail
        refine (HN2.out _).mono ?_
        rintro _ wx4 ⟨rfl, hg⟩
        have HGx4 : Hid (Grows w _) := Lib.hid (HGx3.out.trans hg)
        clear hg
        go_wp2
        go_ret
        exact ⟨ret_bool' (by simp), HGx4.out⟩
    · rw [HC1.out (by omega)] at HU
      clear HC0 HC1 HC2 HC3 HX HM HV3
      go_wp2_with fail
      refine (HK.out _ (HT.out.grows HG2.out)).mono ?_
      rintro _ wx0 ⟨rfl, hg⟩
      have HGx0 : Hid (Grows w _) := Lib.hid (HG2.out.trans hg)
      clear hg
      go_wp2_with fail
      refine (HI.out _ (HT.out.grows HGx0.out)).mono ?_
      rintro _ wx1 ⟨rfl, hg⟩
      have HGx1 : Hid (Grows w _) := Lib.hid (HGx0.out.trans hg)
      clear hg
      go_wp2_with fail
      refine (HU.out _ (HT.out.grows HGx1.out)).mono ?_
      rintro _ wx2 ⟨rfl, hg⟩
      have HGx2 : Hid (Grows w _) := Lib.hid (HGx1.out.trans hg)
      clear hg
      go_wp2_with fail
      refine (HN.out _ (HT.out.grows HGx2.out)).mono ?_
      rintro _ wx3 ⟨rfl, hg⟩
      have HGx3 : Hid (Grows w _) := Lib.hid (HGx2.out.trans hg)
      clear hg
      go_wp2_with fail
      refine (HN2.out _).mono ?_
      rintro _ wx4 ⟨rfl, hg⟩
      have HGx4 : Hid (Grows w _) := Lib.hid (HGx3.out.trans hg)
      clear hg
      go_wp2
      go_ret
      exact ⟨ret_bool' (by simp), HGx4.out⟩
end Go.Proofs.YtcmgkmkpkklloaaDoor
