/-
  Layer 5: entries dropped.
-/
import Derived.Test.YtcmlcoedgfehgaaH10
namespace Go.Proofs.Ytcmlcoedgfehgaa
open Go.RowKit Go.Tab Go.WideShapes

def dropS (s : List Ent3 × Nat) (e : Ent3) : List Ent3 × Nat := if s.1.idxOf e < s.1.length then (removeF s.1 (s.1.idxOf e), s.2 + 1) else s
theorem take_succ_getD (M : List Ent3) (k : Nat) (hk : k < M.length) : M.take (k + 1) = M.take k ++ [M.getD k e0] := by
  rw [List.take_succ_eq_append_getElem hk, List.getD_eq_getElem?_getD, List.getElem?_eq_getElem hk]
  rfl

set_option maxRecDepth 100000 in
set_option maxHeartbeats 2000000 in
theorem drop_heap {w : World} {hb B : Nat} {v : Value} {L : List Ent3} (h : HeapAt w hb B v L) (u : Value) (M : List Ent3) (hu : EntsAt w u M) (hf : Far u M hb v) (hn : L.length ≤ 1000) (hmm : M.length ≤ 1000) :
    Calls Try.prog 8 #[.pointer (some ⟨hb, 0, none⟩), u] w (HPost (iv (M.foldl dropS (L, 0)).2) (M.foldl dropS (L, 0)).1 w hb B v) := by
  obtain ⟨a, cap, rfl, _, _⟩ := hu.shape
  have H := Lib.hid h
  have HU := Lib.hid hu
  have HF := Lib.hid hf
  clear h hu hf
  generalize hm : M.length = m at hmm
  have HM := Lib.hid hm
  rw [hm] at HU HF
  clear hm
  go_enter Try.func8, Try.ntmps8
  go_wp2
  go_loopw [5, 13] (fun cs i wr => ∃ (k c : Nat) (L' : List Ent3) (v' : Value), cs = iv c ∧ i = iv k ∧ k ≤ m ∧ c ≤ k ∧ L'.length ≤ L.length ∧ (M.take k).foldl dropS (L, 0) = (L', c) ∧ HeapAt wr hb B v' L' ∧ HStep w wr hb v v') (fun _ i _ => m - (intOf i).toNat)
  case atStart => exact ⟨0, 0, L, v, rfl, rfl, Nat.zero_le _, Nat.le_refl _, Nat.le_refl _, rfl, H.out, HStep.of hb v (Grows.refl _)⟩
  case round =>
    obtain ⟨k, c, L', v', rfl, rfl, hk, hck, hl', hd, hh, hs⟩ := hrel
    have HH := Lib.hid hh
    have HS := Lib.hid hs
    have HD := Lib.hid hd
    clear hh hs hd
    by_cases hkm : k < m
    · have HE := Lib.hid (HU.out.step HS.out HF.out)
      obtain ⟨b, off, rfl, hb0, x1, x2, x3⟩ := HE.out.at_ (i := k) (by rw [HM.out]; exact hkm)
      obtain ⟨ex, hex⟩ : ∃ ex, ex = M.getD k e0 := ⟨_, rfl⟩
      rw [← hex] at x1 x2 x3
      have HT : Hid ((M.take (k + 1)).foldl dropS (L, 0) = dropS (L', c) ex) := Lib.hid (by rw [take_succ_getD M k (by rw [HM.out]; exact hkm), List.foldl_append, HD.out, ← hex]; rfl)
      clear hex
      obtain ⟨xa, xb, xc⟩ := ex
      simp only at x1 x2 x3
      have CF : Hid (∀ w1, Grows (wr.alloc (.cells #[.int .i64 xa, .int .i64 xb, .int .i64 xc] 30)) w1 → w1.cell? ⟨wr.heap.size, 0, none⟩ = some (.int .i64 xa) ∧ w1.cell? ⟨wr.heap.size, 1, none⟩ = some (.int .i64 xb) ∧ w1.cell? ⟨wr.heap.size, 2, none⟩ = some (.int .i64 xc)) := Lib.hid fun w1 hg1 => by
        obtain ⟨k1, k2, k3, _⟩ := cells3 (hg1.block (heap_new wr (.cells #[.int .i64 xa, .int .i64 xb, .int .i64 xc] 30) _ rfl))
        exact ⟨k1, k2, k3⟩
      obtain ⟨fx, hfx⟩ : ∃ fx, fx = findF L' (xa, xb, xc) := ⟨_, rfl⟩
      have HFI : Hid (∀ w1, Grows (wr.alloc (.cells #[.int .i64 xa, .int .i64 xb, .int .i64 xc] 30)) w1 → Calls Try.prog 20 #[.pointer (some ⟨hb, 0, none⟩), en (xa, xb, xc)] w1 (Ret (iv fx) w1)) := Lib.hid fun w1 hg1 => by
        rw [hfx]
        exact find_heap (HH.out.grows (((Grows.refl wr).al _).trans hg1)) (xa, xb, xc) (by omega)
      have HFX := Lib.hid hfx
      clear hfx
      go_wp2_with fail
      refine wp_region_tab 6 (by kernel_rfl) (by kernel_rfl) ?_
      intro w0 hw0 hg1 hg1'
      simp only [List.take_succ_cons, List.take_zero, List.drop_succ_cons, List.drop_zero]
      refine tab_val (.pointer (some ⟨hb, 0, none⟩)) (fun r w1 hr hg hA => by obtain ⟨q0, -⟩ := hA; have q0e : r (.tmp 0) = .pointer (some ⟨hb, 0, none⟩) := q0; exact ⟨rfl, by simp [go_sem, q0e]⟩) ?_
      refine tab_val (.pointer (some ⟨hb, 0, none⟩)) (fun r w1 hr hg hA => by obtain ⟨⟨_, q0⟩, -⟩ := hA; have q0e : r (.tmp 17) = .pointer (some ⟨hb, 0, none⟩) := q0; exact ⟨rfl, by simp [go_sem, q0e]⟩) ?_
      refine tab_val (.pointer (some ⟨hb, 0, none⟩)) (fun r w1 hr hg hA => by obtain ⟨⟨_, q0⟩, -⟩ := hA; have q0e : r (.tmp 18) = .pointer (some ⟨hb, 0, none⟩) := q0; exact ⟨rfl, by simp [go_sem, q0e]⟩) ?_
      refine tab_val (en (xa, xb, xc)) (fun r w1 hr hg hA => by obtain ⟨q0, -⟩ := hA; have q0e : r (.tmp 7) = .pointer (some ⟨wr.heap.size, 0, none⟩) := q0; have hc := CF.out _ (hg1.trans hg); exact ⟨rfl, by simp [go_sem, q0e, hc]⟩) ?_
      refine tab_call (v := iv fx) (fun w1 hg => HFI.out w1 (hg1.trans hg)) (fun r w1 hr hg hA => by obtain ⟨⟨_, q0⟩, ⟨_, q1⟩, -⟩ := hA; have q0e : r (.tmp 19) = .pointer (some ⟨hb, 0, none⟩) := q0; have q1e : r (.tmp 20) = en (xa, xb, xc) := q1; exact ⟨rfl, by simp [go_sem, hr.func, q0e, q1e]⟩) ?_
      refine tab_val (iv fx) (fun r w1 hr hg hA => by obtain ⟨⟨_, q0⟩, -⟩ := hA; have q0e : r (.tmp 21) = iv fx := q0; exact ⟨rfl, by simp [go_sem, q0e]⟩) ?_
      refine tab_end ?_
      simp only [List.reverse_cons, List.reverse_nil, List.nil_append, List.cons_append, Out, BlockP, forall_eq, forall_const, Act.put, List.setIfInBounds_toArray, List.set_cons_succ, List.set_cons_zero]
      intro wA hgA
      have GA : Hid (Grows wr wA) := Lib.hid (((Grows.refl wr).al _).trans (hg1.trans hgA))
      clear hg1 hgA hg1' hw0 CF x1 x2 x3 HFI
      have HA := Lib.hid (HH.out.grows GA.out)
      have SA := Lib.hid (HS.out.grows GA.out)
      by_cases hin : L'.idxOf (xa, xb, xc) < L'.length
      · obtain ⟨p, hp⟩ : ∃ p, p = L'.idxOf (xa, xb, xc) := ⟨_, rfl⟩
        have hfp : fx = (p : Int) := by rw [HFX.out, findF, if_pos hin, ← hp]
        have HT2 : Hid (dropS (L', c) (xa, xb, xc) = (removeF L' p, c + 1)) := Lib.hid (by unfold dropS; rw [if_pos hin, ← hp])
        rw [← hp] at hin
        subst hfp
        clear hp
        go_wp2_with fail
        refine (remove_heap HA.out p hin (by omega)).mono ?_
        rintro _ w2 ⟨rfl, v2, h2, s2⟩
        have H2 := Lib.hid h2
        have S2 := Lib.hid (SA.out.trans s2)
        clear h2 s2
        go_wp2
        exact ⟨⟨k + 1, c + 1, _, v2, by simp, by simp, by omega, by omega, by rw [removeF_len]; omega, HT.out.trans HT2.out, H2.out, S2.out⟩, by simp only [intOf]; omega⟩
      · have hfp : fx = -1 := by rw [HFX.out, findF, if_neg hin]
        have HT2 : Hid (dropS (L', c) (xa, xb, xc) = (L', c)) := Lib.hid (by unfold dropS; rw [if_neg hin])
        subst hfp
        go_wp2
        exact ⟨⟨k + 1, c, L', v', rfl, by simp, by omega, by omega, hl', HT.out.trans HT2.out, HA.out, SA.out⟩, by simp only [intOf]; omega⟩
    · have hkm' : k = m := by omega
      subst hkm'
      have HD2 : Hid (M.foldl dropS (L, 0) = (L', c)) := Lib.hid (by rw [← HD.out, List.take_of_length_le (by rw [HM.out]; omega)])
      go_wp2
      go_ret
      refine ⟨?_, v', ?_, HS.out⟩
      · rw [HD2.out]; rfl
      · rw [HD2.out]; exact HH.out
end Go.Proofs.Ytcmlcoedgfehgaa
