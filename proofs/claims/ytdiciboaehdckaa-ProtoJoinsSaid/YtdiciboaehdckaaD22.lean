/-
  Layer 8: the law ProtoOnly.
-/
import Derived.Test.YtdiciboaehdckaaD21
namespace Go.Proofs.Ytdiciboaehdckaa
open Go.RowKit Go.Tab Go.WideShapes

theorem cutL_len (fs : List Fld) : (cutL fs).length ≤ 20 := by
  unfold cutL; rw [List.length_map, List.length_take]; omega
theorem cutL_mem {fs : List Fld} (hx : ∀ f ∈ fs, ∀ x ∈ f.bs, x < 256) : (∀ f ∈ cutL fs, ∀ x ∈ f.bs, x < 256) ∧ ∀ f ∈ cutL fs, f.bs.length ≤ 1000 := by
  constructor
  · intro f hf x hxx
    unfold cutL at hf
    obtain ⟨g, hg, rfl⟩ := List.mem_map.1 hf
    exact hx g (List.mem_of_mem_take hg) x (List.mem_of_mem_take hxx)
  · intro f hf
    unfold cutL at hf
    obtain ⟨g, hg, rfl⟩ := List.mem_map.1 hf
    show (g.bs.take 50).length ≤ 1000
    rw [List.length_take]; omega
theorem only_mem {fs : List Fld} {num : Int} {f : Fld} (h : f ∈ onlyL fs num) : f ∈ fs := (List.mem_filter.1 h).1
theorem only_len (fs : List Fld) (num : Int) : (onlyL fs num).length ≤ fs.length := List.length_filter_le _ _

set_option maxRecDepth 100000 in
set_option maxHeartbeats 8000000 in
theorem only_law (v u : Value) (A B : List Fld) (num1 : Int) (w : World)
    (HCA : Hid (∀ w', Grows w w' → Calls Try.prog 7 #[v] w' (fun e w2 => ∃ u, e = .returned u ∧ FldsAt w2 u A ∧ Grows w' w2)))
    (HCB : Hid (∀ w', Grows w w' → Calls Try.prog 7 #[u] w' (fun e w2 => ∃ u, e = .returned u ∧ FldsAt w2 u B ∧ Grows w' w2)))
    (HLA : Hid (A.length ≤ 20)) (HLB : Hid (B.length ≤ 20))
    (HXA : Hid ((∀ f ∈ A, ∀ x ∈ f.bs, x < 256) ∧ ∀ f ∈ A, f.bs.length ≤ 1000)) (HXB : Hid ((∀ f ∈ B, ∀ x ∈ f.bs, x < 256) ∧ ∀ f ∈ B, f.bs.length ≤ 1000)) : Calls Try.prog 5 #[v, u, .int .i64 num1] w (Ret (.bool true) w) := by
  obtain ⟨i0, hi0, hz0, hz1, hz2⟩ := info_parts infoRF
  go_enter Try.func5, Try.ntmps5
  go_wp2_with fail
  refine (HCA.out _ (Grows.refl _)).mono ?_
  rintro _ w1 ⟨va, rfl, ha, hg⟩
  have VA := Lib.hid ha
  have G1 := Lib.hid hg
  clear hg ha HCA
  go_wp2_with fail
  refine (HCB.out _ G1.out).mono ?_
  rintro _ w2 ⟨vb, rfl, hb, hg⟩
  have VA2 := Lib.hid (VA.out.grows hg)
  have VB := Lib.hid hb
  have G2 := Lib.hid (G1.out.trans hg)
  clear hg hb HCB VA G1
  go_wp2_with fail
  refine (lofs_any va A _ VA2.out (by have := HLA.out; omega)).mono ?_
  rintro _ w3 ⟨vw, rfl, hw, hg⟩
  have VA := Lib.hid (VA2.out.grows hg)
  have VBB := Lib.hid (VB.out.grows hg)
  have VW := Lib.hid hw
  have G3 := Lib.hid (G2.out.trans hg)
  obtain ⟨aw, cw, rfl, hncw, -⟩ := hw.shape
  clear hg hw G2 VA2 VB
  obtain ⟨n, hn⟩ : ∃ n, n = A.length := ⟨_, rfl⟩
  rw [← hn] at hncw VW ⊢
  have HN := Lib.hid hn
  have hn20 : n ≤ 20 := by rw [hn]; exact HLA.out
  clear hn
  go_wp2
  go_loopw [8, 9] (fun o' i wr => ∃ (k : Nat) (o : Value), k ≤ n ∧ o = o' ∧ i = .int .i64 (k : Int) ∧ Hid (wr.ownsRow w3.heap.size 45 4 o (onlyL (A.take k) num1).length (rcells (onlyL (A.take k) num1))) ∧ Hid (Grows w3 wr)) (fun _ i _ => n - (intOf i).toNat)
  case atStart => exact ⟨0, _, Nat.zero_le _, rfl, rfl, Lib.hid (World.ownsRow_nil _ _ _ _), Lib.hid (Grows.refl _)⟩
  case round =>
    obtain ⟨k, o, hk, rfl, rfl, HO, HG⟩ := hrel
    by_cases hlt : k < n
    · obtain ⟨f, hf⟩ : ∃ f, A[k]? = some f := ⟨_, List.getElem?_eq_getElem (by rw [← HN.out]; exact hlt)⟩
      obtain ⟨ba, oa, rfl, hba, c0, c1, c2, c3⟩ := (VW.out.grows HG.out).at_ hf
      have HYES := Lib.hid (fun h => onlyL_yes (num := num1) hf h)
      have HNO := Lib.hid (fun h => onlyL_no (num := num1) hf h)
      have HL := Lib.hid (onlyL_len A num1 k)
      generalize onlyL (A.take k) num1 = S at HO HYES HNO HL
      obtain ⟨num, kind, fn, bs⟩ := f
      simp only at c0 c1 c2 c3 HYES HNO
      clear hf hba
      by_cases he : num = num1
      · subst he
        have HS := Lib.hid (HYES.out rfl)
        clear HYES HNO
        have HO1 := Lib.hid (ownsRow_later HO.out (Grows.alloc wr (.cells #[.int .i64 num, .int .i64 kind, .int .u64 (fn : Int), .string (strN bs)] 45)))
        have HG1 := Lib.hid (HG.out.al (.cells #[.int .i64 num, .int .i64 kind, .int .u64 (fn : Int), .string (strN bs)] 45))
        go_wp2_with (at_builtin; go_loud (refine append_row2 rfl _ _ 30 rfl w3.heap.size 45 i0 _ 4 40 Try.underlying30 hi0 hz0 hz1 hz2 rfl (by decide) o S.length _ rfl HO1.out 1 [.int .i64 num, .int .i64 kind, .int .u64 (fn : Int), .string (strN bs)] _ rfl (row_four (heap_new _ _ _ rfl) rfl rfl rfl rfl) (by have := HL.out; unfold maxLen; omega) (by have := HL.out; omega) HG1.out.size ?_; intro o2 w4 hown hgr; have HO2 := Lib.hid hown; have HG2 := Lib.hid (grown_all HO1.out HG1.out hgr); clear hown hgr HO1 HG1))
        exact ⟨⟨k + 1, _, by omega, rfl, by simp, Lib.hid (by rw [HS.out, rcells_snoc, List.length_append]; exact HO2.out), HG2⟩, by simp only [intOf]; omega⟩
      · have b1 : (num == num1) = false := by rw [beq_eq_false_iff_ne]; exact he
        have HS := Lib.hid (HNO.out he)
        clear HYES HNO he
        go_wp2
        exact ⟨⟨k + 1, _, by omega, rfl, by simp, Lib.hid (by rw [HS.out]; exact HO.out), HG⟩, by simp only [intOf]; omega⟩
    · obtain rfl : k = n := by omega
      have HT : Hid (A.take k = A) := Lib.hid (List.take_of_length_le (by rw [HN.out]; exact Nat.le_refl _))
      rw [HT.out] at HO
      have HSL := Lib.hid (only_len A num1)
      have HSM := Lib.hid (fun f (h : f ∈ onlyL A num1) => HXA.out.1 f (only_mem h))
      have VS := Lib.hid (own_rflds HO.out rfl)
      have VA1 := Lib.hid (VA.out.grows HG.out)
      have VB1 := Lib.hid (VBB.out.grows HG.out)
      have GG := Lib.hid (G3.out.trans HG.out)
      clear HO HT HG G3 VW VA VBB
      have VA := VA1
      have VB := VB1
      clear VA1 VB1
      have HSE : Hid (sameF (onlyL A num1) (onlyL A num1) = true) := Lib.hid (sameF_iff.2 rfl)
      have HAA : Hid (sameF A A = true) := Lib.hid (sameF_iff.2 rfl)
      go_wp2_with fail
      refine (kn8_any _).mono ?_
      rintro _ w4 ⟨rfl, hg4⟩
      have W4 := Lib.hid hg4
      clear hg4
      go_wp2_with fail
      refine (only_any va A num1 _ (VA.out.grows W4.out) (by have := HLA.out; omega) HXA.out.2).mono ?_
      rintro _ w5 ⟨u5, PS, rfl, hPS, hown, hPB, hg5⟩
      have VO : Hid (FldsAt w5 u5 (onlyL A num1)) := Lib.hid (by
        rw [← hPS]
        exact own_flds hown rfl (fun p hp => (hPB p hp).nums (by
          have : p.1 ∈ onlyL A num1 := by rw [← hPS]; exact List.mem_map_of_mem hp
          have := HXA.out.2 _ (only_mem this)
          omega)))
      have W5 := Lib.hid (W4.out.trans hg5)
      clear hPS hown hPB hg5 W4
      go_wp2_with fail
      refine (lsame_any u5 o _ _ _ VO.out (VS.out.grows W5.out) (by have := HSL.out; have := HLA.out; omega) (by have := HSL.out; have := HLA.out; omega) HSM.out HSM.out).mono ?_
      rw [HSE.out]
      rintro _ w6 ⟨rfl, hg6⟩
      have W6 := Lib.hid (W5.out.trans hg6)
      clear hg6 W5 VO
      go_wp2_with fail
      refine (psame_any va vb A B _ (VA.out.grows W6.out) (VB.out.grows W6.out) (by have := HLA.out; omega) (by have := HLB.out; omega) HXA.out.1 HXB.out.1).mono ?_
      obtain ⟨q, hq⟩ : ∃ q, q = sameF A B := ⟨_, rfl⟩
      rw [← hq]
      have HQ := Lib.hid hq
      clear hq
      rintro _ w7 ⟨rfl, hg7⟩
      have W7 := Lib.hid (W6.out.trans hg7)
      clear hg7 W6
      go_wp2_with fail
      refine (lofs_any vb B _ (VB.out.grows W7.out) (by have := HLB.out; omega)).mono ?_
      rintro _ w8 ⟨u8, rfl, hw, hg8⟩
      have VW8 := Lib.hid hw
      have W8 := Lib.hid (W7.out.trans hg8)
      clear hg8 W7 hw
      go_wp2_with fail
      refine (lsame_any va u8 A B _ (VA.out.grows W8.out) VW8.out (by have := HLA.out; omega) (by have := HLB.out; omega) HXA.out.1 HXB.out.1).mono ?_
      rw [← HQ.out]
      rintro _ w9 ⟨rfl, hg9⟩
      have W9 := Lib.hid (W8.out.trans hg9)
      clear hg9 W8 VW8
      go_wp2_with fail
      refine (psame_any va va A A _ (VA.out.grows W9.out) (VA.out.grows W9.out) (by have := HLA.out; omega) (by have := HLA.out; omega) HXA.out.1 HXA.out.1).mono ?_
      rw [HAA.out]
      rintro _ w10 ⟨rfl, hg10⟩
      have W10 := Lib.hid ((GG.out.trans W9.out).trans hg10)
      clear hg10 W9
      go_wp2
      go_ret
      exact ⟨rfl, W10.out⟩
end Go.Proofs.Ytdiciboaehdckaa
