/-
  Layer 9: a line's words: the program's.
-/
import Derived.Test.YtcmgkmkpkklloaaDoorT19
import Derived.Test.YtcmgkmkpkklloaaDoorIb
namespace Go.Proofs.YtcmgkmkpkklloaaDoor
open Go.RowKit Go.Tab Go.WideShapes

def wcells (l : List (List UInt8 × Bool)) : List Value := l.flatMap fun t => [.string (bytes t.1), .bool t.2]
theorem wcells_app (l m : List (List UInt8 × Bool)) : wcells (l ++ m) = wcells l ++ wcells m := by unfold wcells; rw [List.flatMap_append]
theorem wcells_get : ∀ (l : List (List UInt8 × Bool)) (i : Nat) (h : i < l.length), (wcells l)[2 * i]? = some (.string (bytes l[i].1)) ∧ (wcells l)[2 * i + 1]? = some (.bool l[i].2)
  | t :: l, 0, _ => ⟨rfl, rfl⟩
  | t :: l, i + 1, h => by
    have := wcells_get l i (by simpa using h)
    have e : wcells (t :: l) = .string (bytes t.1) :: .bool t.2 :: wcells l := rfl
    rw [e, show 2 * (i + 1) = 2 * i + 1 + 1 by omega]
    simpa using this
/-- Words in a slice. -/
def WordsAt (w : World) (v : Value) (l : List (List UInt8 × Bool)) : Prop := ∃ a c, v = .slice a l.length c ∧ ∀ i (h : i < l.length), ∃ b o, a = some ⟨b, o, none⟩ ∧ b < w.heap.size ∧ w.cell? ⟨b, o + 2 * i, none⟩ = some (.string (bytes l[i].1)) ∧ w.cell? ⟨b, o + 2 * i + 1, none⟩ = some (.bool l[i].2)
theorem words_nil (w : World) : WordsAt w (.slice none 0 0) [] := ⟨none, 0, rfl, fun i h => by simp at h⟩
theorem WordsAt.grows {w w' : World} {v : Value} {l : List (List UInt8 × Bool)} (h : WordsAt w v l) (hg : Grows w w') : WordsAt w' v l := by
  obtain ⟨a, c, hv, hc⟩ := h
  refine ⟨a, c, hv, fun i hi => ?_⟩
  obtain ⟨b, o, ha, hb, h1, h2⟩ := hc i hi
  exact ⟨b, o, ha, Nat.lt_of_lt_of_le hb hg.size, (hg.old.1 _ _ hb).trans h1, (hg.old.1 _ _ hb).trans h2⟩
theorem add_zero_addr (b j : Nat) : (⟨b, 0, none⟩ : Addr).add j = ⟨b, j, none⟩ := by
  unfold Addr.add
  by_cases h : j = 0
  · subst h; simp
  · simp [h]
theorem own_words {w : World} {base : Nat} {v : Value} {l : List (List UInt8 × Bool)} (h : w.ownsRow base 47 2 v l.length (wcells l)) (_hl : l.length ≤ 1000000) : WordsAt w v l := by
  have hcells := fun {g n c} (hv : v = .slice (some ⟨g, 0, none⟩) n c) => h.cells (g := g) (by rw [hv]; rfl)
  obtain ⟨h1, h2⟩ := h
  rcases h2 with ⟨hv, h0⟩ | ⟨g, cap, cur, hv, hbg, hg, _⟩
  · exact ⟨none, 0, by rw [hv, h0], fun i hi => by omega⟩
  · refine ⟨_, cap, hv, fun i hi => ⟨g, 0, rfl, (Array.getElem?_eq_some_iff.1 hg).1, ?_⟩⟩
    obtain ⟨e1, e2⟩ := wcells_get l i hi
    have k1 := hcells hv _ _ e1
    have k2 := hcells hv _ _ e2
    rw [add_zero_addr] at k1 k2
    simp only [Nat.zero_add]
    exact ⟨k1, k2⟩
theorem firstW_le (t : ByteArray) : (firstW t).2.1 ≤ t.size := by
  unfold firstW
  split
  · exact unquote_le t
  · split
    · exact Nat.zero_le _
    · split
      · exact Nat.zero_le _
      · exact headB_le t
theorem firstW_empty (t : ByteArray) : t.size = 0 → (firstW t).2.2 = 3 := by
  intro h
  have := headB_le t
  unfold firstW
  rw [if_neg (by omega), if_pos (.inl (by omega))]
/-- From a place on: the words so far, the place, the error. -/
def wdGo (s : ByteArray) : Nat → Nat → List (List UInt8 × Bool) → List (List UInt8 × Bool) × Nat × Nat
  | 0, _, _ => ([], 0, 0)
  | n + 1, p, acc =>
    if (firstW (s.extract p s.size)).2.2 = 0 then
      if p + (firstW (s.extract p s.size)).2.1 < s.size then wdGo s n (p + (firstW (s.extract p s.size)).2.1 + 1) (acc ++ [(firstW (s.extract p s.size)).1])
      else (acc ++ [(firstW (s.extract p s.size)).1], 0, 0)
    else ([], p, (firstW (s.extract p s.size)).2.2)
def wordsT (s : ByteArray) : List (List UInt8 × Bool) × Nat × Nat := if s.size = 0 then ([], 0, 0) else wdGo s (s.size + 1) 0 []
def WLeft (s : ByteArray) (p : Nat) (acc : List (List UInt8 × Bool)) (t : List (List UInt8 × Bool) × Nat × Nat) : Prop := ∃ n, s.size ≤ n + p ∧ t = wdGo s (n + 1) p acc
theorem wdGo_step {s : ByteArray} {p : Nat} {acc : List (List UInt8 × Bool)} {t : List (List UInt8 × Bool) × Nat × Nat} (hl : WLeft s p acc t) :
    (¬ (firstW (s.extract p s.size)).2.2 = 0 → t = ([], p, (firstW (s.extract p s.size)).2.2)) ∧
    ((firstW (s.extract p s.size)).2.2 = 0 → p + (firstW (s.extract p s.size)).2.1 < s.size → WLeft s (p + (firstW (s.extract p s.size)).2.1 + 1) (acc ++ [(firstW (s.extract p s.size)).1]) t) ∧
    ((firstW (s.extract p s.size)).2.2 = 0 → ¬ p + (firstW (s.extract p s.size)).2.1 < s.size → t = (acc ++ [(firstW (s.extract p s.size)).1], 0, 0)) := by
  obtain ⟨n, hn, rfl⟩ := hl
  refine ⟨fun h0 => ?_, fun h0 h1 => ?_, fun h0 h1 => ?_⟩
  · unfold wdGo
    rw [if_neg h0]
  · refine ⟨n - 1, by omega, ?_⟩
    conv => lhs; unfold wdGo
    rw [if_pos h0, if_pos h1, show n = n - 1 + 1 by omega]
    rfl
  · unfold wdGo
    rw [if_pos h0, if_neg h1]
def WPost (s : ByteArray) (w : World) : Ending → World → Prop := fun e w' => ∃ v, e = .returned (.tuple #[v, .int .i64 ((wordsT s).2.1 : Int), .int .i64 ((wordsT s).2.2 : Int)]) ∧ WordsAt w' v (wordsT s).1 ∧ Grows w w'
theorem wordinfo : (Tryd.prog.info? 47).map (fun i => (i.zero, i.size, i.bytes)) = some (some (.agg #[.string ⟨#[]⟩, .bool false]), 2, 24) := by kernel_rfl

set_option maxRecDepth 100000 in
set_option maxHeartbeats 4000000 in
theorem words_any (s : ByteArray) (w : World) (hs : s.size ≤ 1000) (hT : Tabs w) : Calls Tryd.prog 19 #[.string s] w (WPost s w) := by
  obtain ⟨i0, hi, hz0, hz1, hz2⟩ := info_parts wordinfo
  have HT := Lib.hid hT
  clear hT
  unfold WPost
  have HUT : Hid (wordsT s = _) := Lib.hid (wordsT.eq_1 s)
  generalize wordsT s = ut at HUT ⊢
  go_enter Tryd.func19, Tryd.ntmps19
  go_wp2
  refine wp_scope_jumps 0 (fun a' w' => ∃ (p : Nat) (acc : List (List UInt8 × Bool)) (v u7 u8 u9 u10 u11 u12 u13 u14 u15 u16 u17 u18 u19 u20 u21 u22 u23 u24 u25 u26 u27 u28 u29 u30 u31 u32 u33 u34 u35 u36 u37 : Value), a' = { tmps := #[.string s, undef, .slice none 0 0, .int .i64 0, .int .i64 0, v, .int .i64 (p : Int), u7, u8, u9, u10, u11, u12, u13, u14, u15, u16, u17, u18, u19, u20, u21, u22, u23, u24, u25, u26, u27, u28, u29, u30, u31, u32, u33, u34, u35, u36, u37], defers := [] } ∧ p ≤ s.size ∧ Hid (WLeft s p acc ut) ∧ Hid (acc.length ≤ p) ∧ Hid (w'.ownsRow w.heap.size 47 2 v acc.length (wcells acc)) ∧ Hid (Grows w w')) (fun a' _ => s.size - (intOf (a'.tmps.getD 6 undef)).toNat) rfl ?_ ?_
  · by_cases h0 : s.size = 0
    · rw [if_pos h0] at HUT
      obtain rfl := HUT.out
      have hse : s = ⟨#[]⟩ := ByteArray.ext (Array.eq_empty_of_size_eq_zero h0)
      subst hse
      go_wp2
      simp only [Exit.jump]
      exact bodyPost_ret (v := .tuple #[.slice none 0 0, .int .i64 0, .int .i64 0]) (by simp [results, Tryd.results19, go_sem]) rfl ⟨_, rfl, words_nil _, Grows.refl _⟩
    · have hsn : ¬ s = ⟨#[]⟩ := fun h => h0 (by rw [h]; rfl)
      have hsn2 : (s.toList == ([] : List UInt8)) = false := by
        have h := str_ne hsn
        rwa [show (⟨#[]⟩ : ByteArray).toList = [] by rw [ByteArray.toList_eq]] at h
      rw [if_neg h0] at HUT
      have HU : Hid (WLeft s 0 [] ut) := Lib.hid ⟨s.size, Nat.le_refl _, HUT.out⟩
      have HAL : Hid (([] : List (List UInt8 × Bool)).length ≤ 0) := Lib.hid (by decide)
      have HG : Hid (Grows w w) := Lib.hid (Grows.refl _)
      have HO : Hid (w.ownsRow w.heap.size 47 2 (.slice none 0 0) ([] : List (List UInt8 × Bool)).length (wcells [])) := Lib.hid ⟨rfl, .inl ⟨rfl, rfl⟩⟩
      clear h0 HUT hsn
      go_wp2
      go_step3
      have hpz : (0 : Int) ≤ (s.size : Int) := by omega
      have hxs : (s.extract 0 s.size).size = s.size - 0 := by rw [ByteArray.size_extract]; omega
      have HC := Lib.hid (fun w' hT => wfirst_any (s.extract 0 s.size) w' (by omega) hT)
      have HKL := Lib.hid (firstW_le (s.extract 0 s.size))
      have HEMP := Lib.hid (firstW_empty (s.extract 0 s.size))
      have HS := Lib.hid (wdGo_step (p := 0) HU.out)
      rw [hxs] at HKL HEMP
      clear hxs
      obtain ⟨⟨⟨t, q⟩, k, e⟩, ht⟩ : ∃ t, t = firstW (s.extract 0 s.size) := ⟨_, rfl⟩
      rw [← ht] at HC HKL HEMP HS
      simp only [firstV, wordV] at HC HKL HEMP HS
      clear ht
      rw [show s.extract 0 s.size = s by rw [ext_list, List.drop_zero, List.take_of_length_le (by rw [size_list]; omega)]; unfold bytes; simp] at HC
      go_wp2_with fail
      refine (HC.out _ (HT.out.grows HG.out)).mono ?_
      rintro _ wf ⟨rfl, hg⟩
      have HO5 := Lib.hid (ownsRow_grows HO.out hg)
      have HG5 : Hid (Grows w wf) := Lib.hid (HG.out.trans hg)
      clear hg HC
      by_cases he : e = 0
      · subst he
        have HKL2 := Lib.hid (HKL.out)
        have hk2 := HKL.out
        have hpk : (0 : Int) + (k : Int) ≤ (s.size : Int) := by omega
        have HX : Hid (Grows wf _) := Lib.hid (((Grows.refl wf).al (.cells #[.string (bytes t), .bool q] 47)).al (.cells #[.string (bytes t), .bool q] 47))
        have HO6 := Lib.hid (ownsRow_grows HO5.out HX.out)
        have HG6 : Hid (Grows w _) := Lib.hid (HG5.out.trans HX.out)
        have HSZ : Hid (w.heap.size ≤ _) := Lib.hid HG6.out.size
        go_wp2_with (at_builtin; refine wpList_append_own _ rfl _ _ 39 rfl w.heap.size 47 i0 (.agg #[.string ⟨#[]⟩, .bool false]) 2 24 Tryd.underlying39 hi hz0 hz1 hz2 rfl (by decide) _ _ _ rfl HO6.out ⟨wf.heap.size + 1, 0, none⟩ 1 1 [.string (bytes t), .bool q] ?c0 rfl ?c1 ?c2 ?c3 ?c4 HSZ.out ?_)
        case c0 => first | rfl | simp
        case c1 =>
          intro j u hj
          match j, hj with
          | 0, hj => simp at hj; subst hj; simp [Addr.add]
          | 1, hj => simp at hj; subst hj; simp [Addr.add]
        case c2 => intro u hu; simp at hu; rcases hu with rfl | rfl <;> rfl
        case c3 => have := HAL.out; unfold maxLen; omega
        case c4 => have := HAL.out; omega
        intro v' w2 hown' hgrow _
        have HG7 : Hid (Grows w w2) := Lib.hid (grown_all HO6.out HG6.out hgrow)
        have HO7 : Hid (w2.ownsRow w.heap.size 47 2 v' ([] ++ [(t, q)]).length (wcells ([] ++ [(t, q)]))) := Lib.hid (by rw [wcells_app, List.length_append]; exact hown')
        clear hgrow hown' HO6 HG6 HX HSZ HO5 HG5
        by_cases hlt : 0 + k < s.size
        · have hltz : (0 : Int) + (k : Int) < (s.size : Int) := by omega
          have HS2 := Lib.hid (HS.out.2.1 (by trivial) hlt)
          have HA7 : Hid (([] ++ [(t, q)]).length ≤ 0 + k + 1) := Lib.hid (by rw [List.length_append]; have := HAL.out; simp only [List.length_cons, List.length_nil] at this ⊢; omega)
          clear HS HKL HKL2 HEMP
          go_wp2
          go_step3
          refine ⟨rfl, 0 + k + 1, [] ++ [(t, q)], v', _, _, _, _, _, _, _, _, _, _, _, _, _, _, _, _, _, _, _, _, _, _, _, _, _, _, _, _, _, _, _, by first | rfl | (rw [Nat.zero_add, show ((k + 1 : Nat) : Int) = (k : Int) + 1 by omega]) | (rw [show ((0 + k + 1 : Nat) : Int) = (0 : Int) + (k : Int) + 1 by omega]) | (rw [show ((0 + k + 1 : Nat) : Int) = (k : Int) + 1 by omega]), by omega, HS2, HA7, HO7, HG7⟩
        · have hltz : ¬ (0 : Int) + (k : Int) < (s.size : Int) := by omega
          have HV := Lib.hid (HS.out.2.2 (by trivial) hlt)
          clear HS HKL HKL2 HEMP
          go_wp2
          simp only [Exit.jump]
          exact bodyPost_ret (v := .tuple #[v', .int .i64 0, .int .i64 0]) (by simp [results, Tryd.results19, go_sem]) rfl ⟨v', by rw [HV.out] <;> rfl, by rw [HV.out]; exact own_words HO7.out (by rw [List.length_append]; have := HAL.out; simp only [List.length_cons, List.length_nil] at this ⊢; omega), HG7.out⟩
      · have HV := Lib.hid (HS.out.1 he)
        have hez : ¬ (e : Int) = 0 := by omega
        have HX : Hid (Grows w _) := Lib.hid (HG5.out.al (.cells #[.string (bytes t), .bool q] 47))
        clear he HS
        go_wp2
        simp only [Exit.jump]
        exact bodyPost_ret (v := .tuple #[.slice none 0 0, .int .i64 (0 : Int), .int .i64 (e : Int)]) (by simp [results, Tryd.results19, go_sem]) rfl ⟨_, by rw [HV.out] <;> rfl, by rw [HV.out]; exact words_nil _, HX.out⟩
  · clear HUT
    rintro a' w' ⟨p, acc, v, u7, u8, u9, u10, u11, u12, u13, u14, u15, u16, u17, u18, u19, u20, u21, u22, u23, u24, u25, u26, u27, u28, u29, u30, u31, u32, u33, u34, u35, u36, u37, rfl, hp, HU, HAL, HO, HG⟩
    have hpz : (p : Int) ≤ (s.size : Int) := by omega
    have hxs : (s.extract p s.size).size = s.size - p := by rw [ByteArray.size_extract]; omega
    have HC := Lib.hid (fun w' hT => wfirst_any (s.extract p s.size) w' (by omega) hT)
    have HKL := Lib.hid (firstW_le (s.extract p s.size))
    have HEMP := Lib.hid (firstW_empty (s.extract p s.size))
    have HS := Lib.hid (wdGo_step (p := p) HU.out)
    rw [hxs] at HKL HEMP
    clear hxs
    obtain ⟨⟨⟨t, q⟩, k, e⟩, ht⟩ : ∃ t, t = firstW (s.extract p s.size) := ⟨_, rfl⟩
    rw [← ht] at HC HKL HEMP HS
    simp only [firstV, wordV] at HC HKL HEMP HS
    clear ht
    go_wp2_with fail
    refine (HC.out _ (HT.out.grows HG.out)).mono ?_
    rintro _ wf ⟨rfl, hg⟩
    have HO5 := Lib.hid (ownsRow_grows HO.out hg)
    have HG5 : Hid (Grows w wf) := Lib.hid (HG.out.trans hg)
    clear hg HC
    by_cases he : e = 0
    · subst he
      have HKL2 := Lib.hid (HKL.out)
      have hk2 := HKL.out
      have hpk : (p : Int) + (k : Int) ≤ (s.size : Int) := by omega
      have HX : Hid (Grows wf _) := Lib.hid (((Grows.refl wf).al (.cells #[.string (bytes t), .bool q] 47)).al (.cells #[.string (bytes t), .bool q] 47))
      have HO6 := Lib.hid (ownsRow_grows HO5.out HX.out)
      have HG6 : Hid (Grows w _) := Lib.hid (HG5.out.trans HX.out)
      have HSZ : Hid (w.heap.size ≤ _) := Lib.hid HG6.out.size
      go_wp2_with (at_builtin; refine wpList_append_own _ rfl _ _ 39 rfl w.heap.size 47 i0 (.agg #[.string ⟨#[]⟩, .bool false]) 2 24 Tryd.underlying39 hi hz0 hz1 hz2 rfl (by decide) _ _ _ rfl HO6.out ⟨wf.heap.size + 1, 0, none⟩ 1 1 [.string (bytes t), .bool q] ?c0 rfl ?c1 ?c2 ?c3 ?c4 HSZ.out ?_)
      case c0 => first | rfl | simp
      case c1 =>
        intro j u hj
        match j, hj with
        | 0, hj => simp at hj; subst hj; simp [Addr.add]
        | 1, hj => simp at hj; subst hj; simp [Addr.add]
      case c2 => intro u hu; simp at hu; rcases hu with rfl | rfl <;> rfl
      case c3 => have := HAL.out; unfold maxLen; omega
      case c4 => have := HAL.out; omega
      intro v' w2 hown' hgrow _
      have HG7 : Hid (Grows w w2) := Lib.hid (grown_all HO6.out HG6.out hgrow)
      have HO7 : Hid (w2.ownsRow w.heap.size 47 2 v' (acc ++ [(t, q)]).length (wcells (acc ++ [(t, q)]))) := Lib.hid (by rw [wcells_app, List.length_append]; exact hown')
      clear hgrow hown' HO6 HG6 HX HSZ HO5 HG5
      by_cases hlt : p + k < s.size
      · have hltz : (p : Int) + (k : Int) < (s.size : Int) := by omega
        have HS2 := Lib.hid (HS.out.2.1 (by trivial) hlt)
        have HA7 : Hid ((acc ++ [(t, q)]).length ≤ p + k + 1) := Lib.hid (by rw [List.length_append]; have := HAL.out; simp only [List.length_cons, List.length_nil] at this ⊢; omega)
        clear HS HKL HKL2 HEMP
        go_wp2
        go_step3
        refine ⟨rfl, ⟨p + k + 1, acc ++ [(t, q)], v', _, _, _, _, _, _, _, _, _, _, _, _, _, _, _, _, _, _, _, _, _, _, _, _, _, _, _, _, _, _, _, by first | rfl | (rw [Nat.zero_add, show ((k + 1 : Nat) : Int) = (k : Int) + 1 by omega]) | (rw [show ((p + k + 1 : Nat) : Int) = (p : Int) + (k : Int) + 1 by omega]) | (rw [show ((p + k + 1 : Nat) : Int) = (k : Int) + 1 by omega]), by omega, HS2, HA7, HO7, HG7⟩, ?_⟩
        simp [intOf]; omega
      · have hltz : ¬ (p : Int) + (k : Int) < (s.size : Int) := by omega
        have HV := Lib.hid (HS.out.2.2 (by trivial) hlt)
        clear HS HKL HKL2 HEMP
        go_wp2
        simp only [Exit.jump]
        exact bodyPost_ret (v := .tuple #[v', .int .i64 0, .int .i64 0]) (by simp [results, Tryd.results19, go_sem]) rfl ⟨v', by rw [HV.out] <;> rfl, by rw [HV.out]; exact own_words HO7.out (by rw [List.length_append]; have := HAL.out; simp only [List.length_cons, List.length_nil] at this ⊢; omega), HG7.out⟩
    · have HV := Lib.hid (HS.out.1 he)
      have hez : ¬ (e : Int) = 0 := by omega
      have HX : Hid (Grows w _) := Lib.hid (HG5.out.al (.cells #[.string (bytes t), .bool q] 47))
      clear he HS
      go_wp2
      simp only [Exit.jump]
      exact bodyPost_ret (v := .tuple #[.slice none 0 0, .int .i64 (p : Int), .int .i64 (e : Int)]) (by simp [results, Tryd.results19, go_sem]) rfl ⟨_, by rw [HV.out] <;> rfl, by rw [HV.out]; exact words_nil _, HX.out⟩
end Go.Proofs.YtcmgkmkpkklloaaDoor
