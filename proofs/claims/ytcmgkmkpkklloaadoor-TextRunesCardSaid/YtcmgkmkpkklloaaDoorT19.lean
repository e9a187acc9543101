/-
  Layer 9: the word that a text begins with.
-/
import Derived.Test.YtcmgkmkpkklloaaDoorT18
namespace Go.Proofs.YtcmgkmkpkklloaaDoor
open Go.RowKit Go.Tab Go.WideShapes

theorem prefix_iff (s : ByteArray) : Lib.hasPrefix s.data.toList [34] = decide (0 < s.size ∧ B s 0 = 34) := by
  have hl := size_list s
  have hg : 0 < s.size → s.data.toList[0]? = some (s.get! 0) := by
    intro h
    rw [Utf8W.get!_of_lt s 0 h, Array.getElem?_toList]
    rw [Array.getElem?_eq_getElem (show 0 < s.data.size from h)]
    rfl
  unfold Lib.hasPrefix B
  cases hc : s.data.toList with
  | nil => rw [hc] at hl; simp at hl; simp [← hl]
  | cons b l =>
    rw [hc] at hl hg
    have h0 : 0 < s.size := by rw [← hl]; simp
    have := hg h0
    simp only [List.getElem?_cons_zero, Option.some.injEq] at this
    rw [← this]
    simp only [List.isPrefixOf, Bool.and_true]
    rw [Bool.eq_iff_iff, beq_iff_eq, decide_eq_true_eq]
    constructor
    · rintro rfl; exact ⟨h0, rfl⟩
    · rintro ⟨-, h⟩; exact UInt8.toNat_inj.1 (by rw [h]; rfl)
/-- The word that a text begins with, whether it was quoted; its bytes; the error. -/
def firstW (s : ByteArray) : (List UInt8 × Bool) × Nat × Nat :=
  if 0 < s.size ∧ B s 0 = 34 then
    (((unquoteT s).1, true), (unquoteT s).2.1, if (unquoteT s).2.2 = 0 ∧ (unquoteT s).2.1 < s.size ∧ ¬ B s (unquoteT s).2.1 = 32 then 3 else (unquoteT s).2.2)
  else if headB s = 0 ∨ 34 ∈ s.data.toList.take (headB s) then (([], false), 0, 3)
  else if rightT (s.extract 0 (headB s)) = false then (([], false), 0, 13)
  else ((s.data.toList.take (headB s), false), headB s, 0)

def wordV (t : List UInt8 × Bool) : Value := .agg #[.string (bytes t.1), .bool t.2]
def firstV (x : (List UInt8 × Bool) × Nat × Nat) : Value := .tuple #[wordV x.1, .int .i64 (x.2.1 : Int), .int .i64 (x.2.2 : Int)]
/-- A word's block, new. -/
structure WordAt (w w2 : World) : Prop where
  c0 : w2.cell? ⟨w.heap.size, 0, none⟩ = some (.string ⟨#[]⟩)
  c1 : w2.cell? ⟨w.heap.size, 1, none⟩ = some (.bool false)
  f0 : w2.frozen? ⟨w.heap.size, 0, none⟩ = false
  f1 : w2.frozen? ⟨w.heap.size, 1, none⟩ = false
  gr : Grows w w2
theorem WordAt.of {w w2 : World} (hg : Grows (w.alloc (.cells #[.string ⟨#[]⟩, .bool false] 47)) w2) : WordAt w w2 := by
  have hb := hg.block (heap_alloc_new w (.cells #[.string ⟨#[]⟩, .bool false] 47))
  exact ⟨by rw [Lib.cell_of_heap hb]; rfl, by rw [Lib.cell_of_heap hb]; rfl, Lib.frozen_of_heap hb 0, Lib.frozen_of_heap hb 1, (Grows.alloc _ _).trans hg⟩
theorem WordAt.grows {w w2 w3 : World} (h : WordAt w w2) (hg : Grows w2 w3) : WordAt w w3 := by
  have hlt : w.heap.size < w2.heap.size := by
    rcases Nat.lt_or_ge w.heap.size w2.heap.size with h' | h'
    · exact h'
    · have := h.c0; simp [World.cell?, Array.getElem?_eq_none h'] at this
  obtain ⟨o1, o2⟩ := hg.old
  exact ⟨(o1 _ _ hlt).trans h.c0, (o1 _ _ hlt).trans h.c1, (o2 _ _ hlt).trans h.f0, (o2 _ _ hlt).trans h.f1, h.gr.trans hg⟩
theorem mem_ahead (c : UInt8) : ∀ l, c ∈ l ↔ ¬ ahead c l = l.length
  | [] => by simp [ahead]
  | b :: l => by
    unfold ahead
    by_cases hb : b = c
    · subst hb; simp
    · rw [if_neg (by simpa using hb), List.mem_cons, mem_ahead c l, List.length_cons]
      constructor
      · rintro (rfl | h)
        · exact absurd rfl hb
        · omega
      · intro h; exact .inr (by omega)
theorem unq_left {s : ByteArray} {n : Nat} : ∀ {p : Nat} {acc : List UInt8}, p ≤ s.size → (uqGo s n p acc).2.1 ≤ s.size := by
  induction n with
  | zero => intro p acc _; exact Nat.zero_le _
  | succ n ih =>
    intro p acc hp
    unfold uqGo
    split
    · split
      · dsimp only; omega
      · split
        · rename_i h1 h2 h3
          have := unq_ok (s.extract p s.size) (by rw [ByteArray.size_extract]; omega) h3
          rw [ByteArray.size_extract] at this
          exact ih (by omega)
        · exact Nat.zero_le _
    · exact Nat.zero_le _
theorem unquote_le (s : ByteArray) : (unquoteT s).2.1 ≤ s.size := by
  unfold unquoteT
  split
  · exact Nat.zero_le _
  · split
    · exact unq_left (by omega)
    · exact Nat.zero_le _

set_option maxRecDepth 100000 in
set_option maxHeartbeats 4000000 in
theorem wfirst_any (s : ByteArray) (w : World) (hs : s.size ≤ 1000) (hT : Tabs w) : Calls Tryd.prog 35 #[.string s] w (Ret (firstV (firstW s)) w) := by
  have HP := Lib.hid (fun w' => Proofs.Tryd.strings_HasPrefix s ⟨#[34]⟩ w')
  rw [show (⟨#[34]⟩ : ByteArray).data.toList = [34] from rfl, prefix_iff] at HP
  have HT := Lib.hid hT
  have HUQ := Lib.hid (fun w' hT => unquote_any s w' hs hT)
  have HF : Hid (firstW s = _) := Lib.hid (firstW.eq_1 s)
  have HLE := Lib.hid (unquote_le s)
  generalize firstW s = fw at HF ⊢
  clear hT
  go_enter Tryd.func35, Tryd.ntmps35
  go_wp2_with fail
  refine (HP.out _).mono ?_
  rintro _ w1 ⟨rfl, rfl⟩
  by_cases h0 : 0 < s.size ∧ B s 0 = 34
  · rw [decide_eq_true h0]
    rw [if_pos h0] at HF
    clear HP h0
    go_wp2_with fail
    refine (HUQ.out _ (HT.out.grows (Grows.alloc _ _))).mono ?_
    rintro _ w2 ⟨rfl, hg⟩
    have HW := Lib.hid (WordAt.of hg)
    clear hg HUQ HT
    obtain ⟨⟨t, k, e⟩, hq⟩ : ∃ q, q = unquoteT s := ⟨_, rfl⟩
    rw [← hq] at HF HLE ⊢
    clear hq
    simp only [txtV] at HF HLE ⊢
    have hk := HLE.out
    have k0 := HW.out.c0
    have k1 := HW.out.c1
    have g0 := HW.out.f0
    have g1 := HW.out.f1
    have HG : Hid (Grows w _) := Lib.hid ((HW.out.gr.st (p := ⟨w.heap.size, 0, none⟩) (Nat.le_refl _) (.string (bytes t))).st (p := ⟨w.heap.size, 1, none⟩) (Nat.le_refl _) (.bool true))
    by_cases he : e = 0
    · subst he
      by_cases hlt : k < s.size
      · obtain ⟨y, hy⟩ : ∃ y, s.get! k = y := ⟨_, rfl⟩
        have hsy : s[k]'hlt = y := by rw [← hy]; exact (Utf8W.get!_of_lt s k hlt).symm
        have HBY : B s k = y.toNat := by unfold B; rw [hy]
        rw [HBY] at HF
        clear hy HBY
        have hltz : (k : Int) < (s.size : Int) := by omega
        by_cases hb : y.toNat = 32
        · rw [if_neg (fun h => h.2.2 hb)] at HF
          obtain rfl := HF.out
          have hbz : (y.toNat : Int) = 32 := by omega
          clear HF hb
          go_wp2
          exact bodyPost_ret (v := .tuple #[.agg #[.string (bytes t), .bool true], .int .i64 (k : Int), .int .i64 0]) (by simp [results, Tryd.results35, go_sem, k0, k1, g0, g1]) rfl ⟨rfl, HG.out⟩
        · rw [if_pos ⟨rfl, hlt, hb⟩] at HF
          obtain rfl := HF.out
          have hbz : ¬ (y.toNat : Int) = 32 := by omega
          clear HF hb
          go_wp2
          exact bodyPost_ret (v := .tuple #[.agg #[.string (bytes t), .bool true], .int .i64 (k : Int), .int .i64 3]) (by simp [results, Tryd.results35, go_sem, k0, k1, g0, g1]) rfl ⟨rfl, HG.out⟩
      · rw [if_neg (fun h => hlt h.2.1)] at HF
        obtain rfl := HF.out
        have hltz : ¬ (k : Int) < (s.size : Int) := by omega
        clear HF hlt
        go_wp2
        exact bodyPost_ret (v := .tuple #[.agg #[.string (bytes t), .bool true], .int .i64 (k : Int), .int .i64 0]) (by simp [results, Tryd.results35, go_sem, k0, k1, g0, g1]) rfl ⟨rfl, HG.out⟩
    · have hez : ¬ (e : Int) = 0 := by omega
      rw [if_neg (fun h => he h.1)] at HF
      obtain rfl := HF.out
      clear HF he
      go_wp2
      exact bodyPost_ret (v := .tuple #[.agg #[.string (bytes t), .bool true], .int .i64 (k : Int), .int .i64 (e : Int)]) (by simp [results, Tryd.results35, go_sem, k0, k1, g0, g1]) rfl ⟨rfl, HG.out⟩
  · rw [decide_eq_false h0]
    rw [if_neg h0] at HF
    clear HP h0 HUQ HLE
    have HCT := Lib.hid (fun w' => scut_any s w' hs)
    have HCO := Lib.hid (fun x w' => Proofs.Tryd.strings_Contains_one x 34 w')
    go_wp2_with fail
    refine (HCT.out _).mono ?_
    rintro _ w2 ⟨rr, rb, rfl, hg⟩
    have HW := Lib.hid (WordAt.of hg)
    have HT2 := Lib.hid (HT.out.grows HW.out.gr)
    clear hg HCT HT
    have HX := Lib.hid (ext_list s 0 (headB s))
    rw [List.drop_zero, Nat.sub_zero] at HX
    have hk := headB_le s
    obtain ⟨k, hkk⟩ : ∃ k, k = headB s := ⟨_, rfl⟩
    rw [← hkk] at HF HX hk ⊢
    clear hkk
    have hxs : (s.extract 0 k).size = k := by rw [ByteArray.size_extract]; omega
    have HRT := Lib.hid (fun w' hT => right_any (s.extract 0 k) w' (by omega) hT)
    have HXL : Hid ((s.extract 0 k).data.toList = s.data.toList.take k) := Lib.hid (by rw [HX.out, bytes_toList])
    have HXI := Lib.hid (index_ahead 34 (s.extract 0 k).data.toList)
    have hxl := size_list (s.extract 0 k)
    rw [hxs] at hxl
    rw [hxl] at HXI
    have HMEM : Hid (34 ∈ s.data.toList.take k ↔ ¬ ahead 34 (s.extract 0 k).data.toList = k) := Lib.hid (by rw [← HXL.out, mem_ahead, hxl])
    have HE0 : Hid (k = 0 → s.extract 0 k = ⟨#[]⟩) := Lib.hid (fun h => ByteArray.ext (Array.eq_empty_of_size_eq_zero (by show (s.extract 0 k).size = 0; omega)))
    have HE1 : Hid (¬ k = 0 → ((s.extract 0 k).toList == ([] : List UInt8)) = false) := Lib.hid (fun h => by
      have h2 := str_ne (a := s.extract 0 k) (b := ⟨#[]⟩) (fun h3 => h (by rw [h3] at hxs; exact hxs.symm))
      rwa [show (⟨#[]⟩ : ByteArray).toList = [] by rw [ByteArray.toList_eq]] at h2)
    generalize ahead 34 (s.extract 0 k).data.toList = m at HXI HMEM
    clear hxl
    generalize s.extract 0 k = wd at HX HXI HRT hxs HE0 HE1 HXL HF ⊢
    generalize s.data.toList.take k = ll at HF HMEM HX HXL
    generalize rightT wd = rt at HRT HF
    by_cases hk0 : k = 0
    · rw [if_pos (.inl hk0)] at HF
      obtain rfl := HF.out
      obtain rfl := HE0.out hk0
      have k0 := HW.out.c0
      have k1 := HW.out.c1
      have g0 := HW.out.f0
      have g1 := HW.out.f1
      have HG : Hid (Grows w _) := Lib.hid ((HW.out.gr.st (p := ⟨w.heap.size, 0, none⟩) (Nat.le_refl _) (.string ⟨#[]⟩)).st (p := ⟨w.heap.size, 1, none⟩) (Nat.le_refl _) (.bool false))
      clear HF hk0
      go_wp2
      exact bodyPost_ret (v := .tuple #[.agg #[.string ⟨#[]⟩, .bool false], .int .i64 0, .int .i64 3]) (by simp [results, Tryd.results35, go_sem, k0, k1, g0, g1]) rfl ⟨rfl, HG.out⟩
    · have hne := HE1.out hk0
      go_wp2_with fail
      refine (HCO.out _ _).mono ?_
      rintro _ w3 ⟨rfl, rfl⟩
      rw [HXI.out]
      by_cases hm : m = k
      · rw [if_pos hm]
        rw [if_neg (fun h => h.elim hk0 (fun h => HMEM.out.1 h hm))] at HF
        rw [show decide ((0 : Int) ≤ -1) = false from rfl]
        go_wp2_with fail
        refine (HRT.out _ HT2.out).mono ?_
        rintro _ w4 ⟨rfl, hg⟩
        have HW := Lib.hid (HW.out.grows hg)
        clear hg
        cases rt with
        | false =>
          rw [if_pos rfl] at HF
          obtain rfl := HF.out
          have k0 := HW.out.c0
          have k1 := HW.out.c1
          have g0 := HW.out.f0
          have g1 := HW.out.f1
          have HG : Hid (Grows w _) := Lib.hid ((HW.out.gr.st (p := ⟨w.heap.size, 0, none⟩) (Nat.le_refl _) (.string ⟨#[]⟩)).st (p := ⟨w.heap.size, 1, none⟩) (Nat.le_refl _) (.bool false))
          clear HF hm hk0
          go_wp2
          exact bodyPost_ret (v := .tuple #[.agg #[.string ⟨#[]⟩, .bool false], .int .i64 0, .int .i64 13]) (by simp [results, Tryd.results35, go_sem, k0, k1, g0, g1]) rfl ⟨rfl, HG.out⟩
        | true =>
          rw [if_neg (by decide)] at HF
          obtain rfl := HF.out
          obtain rfl := HX.out
          clear HF hm hk0
          have k0 := HW.out.c0
          have k1 := HW.out.c1
          have g0 := HW.out.f0
          have g1 := HW.out.f1
          have HG : Hid (Grows w _) := Lib.hid ((HW.out.gr.st (p := ⟨w.heap.size, 0, none⟩) (Nat.le_refl _) (.string (bytes ll))).st (p := ⟨w.heap.size, 1, none⟩) (Nat.le_refl _) (.bool false))
          go_wp2
          exact bodyPost_ret (v := .tuple #[.agg #[.string (bytes ll), .bool false], .int .i64 (k : Int), .int .i64 0]) (by simp [results, Tryd.results35, go_sem, k0, k1, g0, g1]) rfl ⟨rfl, HG.out⟩
      · rw [if_neg hm]
        rw [if_pos (.inr (HMEM.out.2 hm))] at HF
        obtain rfl := HF.out
        rw [show decide ((0 : Int) ≤ (m : Int)) = true from decide_eq_true (by omega)]
        have k0 := HW.out.c0
        have k1 := HW.out.c1
        have g0 := HW.out.f0
        have g1 := HW.out.f1
        have HG : Hid (Grows w _) := Lib.hid ((HW.out.gr.st (p := ⟨w.heap.size, 0, none⟩) (Nat.le_refl _) (.string ⟨#[]⟩)).st (p := ⟨w.heap.size, 1, none⟩) (Nat.le_refl _) (.bool false))
        clear HF hm hk0
        go_wp2
        exact bodyPost_ret (v := .tuple #[.agg #[.string ⟨#[]⟩, .bool false], .int .i64 0, .int .i64 3]) (by simp [results, Tryd.results35, go_sem, k0, k1, g0, g1]) rfl ⟨rfl, HG.out⟩
end Go.Proofs.YtcmgkmkpkklloaaDoor
