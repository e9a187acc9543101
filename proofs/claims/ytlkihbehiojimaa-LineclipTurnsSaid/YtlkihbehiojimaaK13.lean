/-
  Layer 22: the law of the row turned: the walk.
-/
import Derived.Test.YtlkihbehiojimaaK12
import Derived.BigQuiet
namespace Go.Proofs.Ytlkihbehiojimaa
open Go.RowKit Go.Tab Go.WideShapes

theorem row2 (w : World) (x y : Value) (T : TypeId) (hx : x.oneCell' = true) (hy : y.oneCell' = true) : RowAt 2 (w.alloc (.cells #[x, y] T)) (.slice (some ⟨w.heap.size, 0, none⟩) 1 1) 1 [x, y] :=
  ⟨rfl, by simp [hx, hy], .inr ⟨w.heap.size, 0, 1, rfl, by simp, fun j z hj => by
    match j with
    | 0 => cases hj; unfold World.cell?; rw [heap_new w _ _ rfl]; rfl
    | 1 => cases hj; unfold World.cell?; rw [heap_new w _ _ rfl]; rfl
    | j + 2 => simp at hj⟩⟩
theorem flat_more (l : List (Int × Int)) (k : Nat) (h : k < l.length) : flat (l.take (k + 1)) = flat (l.take k) ++ [.int .i64 (l.getD k (0, 0)).1, .int .i64 (l.getD k (0, 0)).2] := by
  rw [List.take_succ_eq_append_getElem h, flat_append]
  simp [flat, h]
theorem cut_row40 (a : Option Addr) (n c : Nat) (w : World) (hnc : n ≤ c) (hac : a = none → c = 0) : Calls Try.prog 7 #[.slice a n c] w (Ret (.slice a (min n 40) c) w) := by
  cases a with
  | none =>
    have hc0 : c = 0 := hac rfl
    subst hc0
    have hn0 : n = 0 := by omega
    subst hn0
    clear hac hnc
    show Calls Try.prog 7 #[.slice none 0 0] w (Ret (.slice none 0 0) w)
    go_enter Try.func7, Try.ntmps7
    go_wp2
    go_ret
    exact ⟨rfl, Grows.refl w⟩
  | some ad =>
    have hm1 : min n 40 ≤ n := Nat.min_le_left _ _
    have hm : (if (40 : Int) < (n : Int) then (40 : Int) else (n : Int)) = ((min n 40 : Nat) : Int) := by split <;> omega
    generalize min n 40 = m at hm hm1 ⊢
    clear hac
    have hm2 : m ≤ c := by omega
    go_enter Try.func7, Try.ntmps7
    go_wp2
    go_ret
    exact ⟨rfl, Grows.refl w⟩

/-- What Parts gives, in any later world. -/
def PartsV (b : BoxI) (l : List (Int × Int)) (v : Value) (w' : World) : Prop := ∃ g cp, w'.ownsRow 0 22 1 v (partsI (shS b l) l.length 0).length ((partsI (shS b l) l.length 0).map (rowV g)) ∧ (l = [] ∨ PtsAt w' (.slice (some ⟨g, 0, none⟩) l.length cp) l)
theorem PartsV.up (b : BoxI) (l : List (Int × Int)) (v : Value) (w w' : World) (h : PartsV b l v w) (hg : Grows w w') : PartsV b l v w' := by
  obtain ⟨g, cp, h1, h2⟩ := h
  exact ⟨g, cp, ownsRow_grows h1 hg, h2.imp id fun h => h.grows hg⟩
theorem parts_PV (u : Value) (l : List (Int × Int)) (b : BoxI) (w : World) (hu : PtsAt w u l) (hn : l.length ≤ 1000) : Calls Try.prog 14 #[u, bx b] w (fun e w' => ∃ v, e = .returned v ∧ PartsV b l v w' ∧ Grows w w') :=
  (parts_any u l b w hu hn).mono fun e w' ⟨v, g, cp, he, h1, h2, hg⟩ => ⟨v, he, ⟨g, cp, own_base h1 (Nat.zero_le _), h2⟩, hg⟩

/-- What the loops want of one part and the part that answers it in the row turned. -/
theorem part_facts {W : World} {g1 cp1 g2 cp2 n : Nat} {L : List (Int × Int)} (b : BoxI) (hn : n = L.length) (hp1 : PtsAt W (.slice (some ⟨g1, 0, none⟩) n cp1) L) (hp2 : PtsAt W (.slice (some ⟨g2, 0, none⟩) n cp2) L.reverse) (hn2 : n ≤ 1000) (p : Nat × Nat) (hp : p ∈ partsI (shS b L) n 0) :
    ∃ i0 j0 d, rowV g1 p = .slice (some ⟨g1, i0 * 2, none⟩) (d + 1) (d + 1) ∧ rowV g2 (flipI n p) = .slice (some ⟨g2, j0 * 2, none⟩) (d + 1) (d + 1) ∧ 0 < d ∧ d < n ∧
      (∀ w', Grows W w' → Calls Try.prog 16 #[.slice (some ⟨g1, i0 * 2, none⟩) (d + 1) (d + 1), bx b] w' (Ret (.int .i64 (d : Int)) w')) ∧
      ∀ t, t ≤ d → ∃ x y, b.has x y = true ∧ ∀ w', Grows W w' → (w'.cell? ⟨g1, i0 * 2 + t * 2, none⟩ = some (.int .i64 x) ∧ w'.cell? ⟨g1, i0 * 2 + t * 2 + 1, none⟩ = some (.int .i64 y)) ∧
        (w'.cell? ⟨g2, j0 * 2 + (d - t) * 2, none⟩ = some (.int .i64 x) ∧ w'.cell? ⟨g2, j0 * 2 + (d - t) * 2 + 1, none⟩ = some (.int .i64 y)) := by
  subst hn
  obtain ⟨h1, h2, _⟩ := (parts_maxi _ _ p).1 hp
  have q1 := hp1.part p (by omega) h2 rfl
  have q2 := hp2.part (flipI L.length p) (by simp only [flipI]; omega) (by simp only [flipI]; omega) (by rw [List.length_reverse])
  have e1 : rowV g1 p = .slice (some ⟨g1, p.1 * 2, none⟩) (p.2 - p.1 + 1) (p.2 - p.1 + 1) := rfl
  have e2 : rowV g2 (flipI L.length p) = .slice (some ⟨g2, (L.length - 1 - p.2) * 2, none⟩) (p.2 - p.1 + 1) (p.2 - p.1 + 1) := by
    show Value.slice _ (L.length - 1 - p.1 - (L.length - 1 - p.2) + 1) (L.length - 1 - p.1 - (L.length - 1 - p.2) + 1) = _
    rw [show L.length - 1 - p.1 - (L.length - 1 - p.2) + 1 = p.2 - p.1 + 1 by omega]
    rfl
  refine ⟨p.1, L.length - 1 - p.2, p.2 - p.1, e1, e2, by omega, by omega, fun w' hg => ?_, fun t ht => ?_⟩
  · have := count_any _ (partL L p) b w' (q1.grows hg) (by rw [partL_len L p (by omega) h2]; omega)
    rw [partL_cnt b L p hp, e1] at this
    exact this
  · refine ⟨(gp L (p.1 + t)).1, (gp L (p.1 + t)).2, part_has b L p hp t ht, fun w' hg => ⟨?_, ?_⟩⟩
    · have := (q1.grows hg).at_cell (i := t) (by rw [partL_len L p (by omega) h2]; omega)
      rwa [show (partL L p).getD t (0, 0) = gp L (p.1 + t) from partL_gp L p t ht] at this
    · have hlen : (partL L.reverse (flipI L.length p)).length = p.2 - p.1 + 1 := by
        rw [partL_len _ _ (by simp only [flipI]; omega) (by rw [List.length_reverse]; simp only [flipI]; omega)]
        simp only [flipI]; omega
      have := (q2.grows hg).at_cell (i := p.2 - p.1 - t) (by rw [hlen]; omega)
      rw [show (partL L.reverse (flipI L.length p)).getD (p.2 - p.1 - t) (0, 0) = gp L (p.1 + t) from by
        rw [show (partL L.reverse (flipI L.length p)).getD (p.2 - p.1 - t) (0, 0) = gp L.reverse ((flipI L.length p).1 + (p.2 - p.1 - t)) from partL_gp _ _ _ (by simp only [flipI]; omega)]
        simp only [flipI]
        rw [gp_reverse L _ (by omega), show L.length - 1 - (L.length - 1 - p.2 + (p.2 - p.1 - t)) = p.1 + t by omega]] at this
      exact this

set_option maxRecDepth 100000 in
set_option maxHeartbeats 8000000 in
theorem turns_law (a : Option Addr) (n0 c : Nat) (L : List (Int × Int)) (b : BoxI) (w : World) (hnc0 : n0 ≤ c) (hac : a = none → c = 0) (hu : PtsAt w (.slice a (min n0 40) c) L) : Calls Try.prog 6 #[.slice a n0 c, bx b] w (Ret (.bool true) w) := by
  obtain ⟨i0, hi0, hz0, hz1, hz2⟩ := info_parts infoPt
  have hcut := cut_row40 a n0 c (w.alloc (.cells #[.int .i64 b.lx, .int .i64 b.ly, .int .i64 b.hx, .int .i64 b.hy] 26)) hnc0 hac
  have hpt := hu.grows ((Grows.refl w).al (.cells #[.int .i64 b.lx, .int .i64 b.ly, .int .i64 b.hx, .int .i64 b.hy] 26))
  obtain ⟨n, hn⟩ : ∃ n, n = min n0 40 := ⟨_, rfl⟩
  have hL : n ≤ 40 := by rw [hn]; exact Nat.min_le_right _ _
  rw [← hn] at hcut hpt
  obtain ⟨a', c', hv, hnc, _⟩ := hpt.shape
  have hln : n = L.length := by injection hv
  have hcc : c = c' := by injection hv
  rw [← hln] at hnc
  rw [← hcc] at hnc
  clear hac hnc0 hn hv hcc hu
  have HU := Lib.hid hpt
  have HN := Lib.hid hln
  have HCUT := Lib.hid hcut
  clear hpt hln hcut
  have BX : Hid (∀ w', Grows (w.alloc (.cells #[.int .i64 b.lx, .int .i64 b.ly, .int .i64 b.hx, .int .i64 b.hy] 26)) w' →
      w'.cell? ⟨w.heap.size, 0, none⟩ = some (.int .i64 b.lx) ∧ w'.cell? ⟨w.heap.size, 1, none⟩ = some (.int .i64 b.ly) ∧ w'.cell? ⟨w.heap.size, 2, none⟩ = some (.int .i64 b.hx) ∧ w'.cell? ⟨w.heap.size, 3, none⟩ = some (.int .i64 b.hy)) := Lib.hid fun w' hg => cells4 (hg.block (heap_new _ _ _ rfl))
  go_enter Try.func6, Try.ntmps6
  go_wp2_with fail
  refine HCUT.out.mono ?_
  rintro _ w1 ⟨rfl, hg⟩
  have HG := Lib.hid hg
  clear hg
  have e9 : IntKind.i64.wrap ((n : Int) - 1) = (n : Int) - 1 := IntWalk.i64_in _ (by omega)
  go_wp2
  clear e9
  go_loopw [5, 6] (fun u' i wr => ∃ (k : Nat) (u : Value), u = u' ∧ i = .int .i64 ((n : Int) - 1 - k) ∧ k ≤ n ∧ wr.ownsRow w1.heap.size 24 2 u k (flat (L.reverse.take k)) ∧ Grows w1 wr) (fun _ i _ => (intOf i + 1).toNat)
  case atStart => exact ⟨0, _, rfl, by simp, Nat.zero_le _, World.ownsRow_nil _ _ _ _, Grows.refl _⟩
  case round =>
    obtain ⟨k, u, rfl, rfl, hk, hown, hg⟩ := hrel
    have HOW := Lib.hid hown
    have G := Lib.hid hg
    clear hown hg
    by_cases hkn : k < n
    · obtain ⟨j, hj⟩ : ∃ j : Nat, j = n - 1 - k := ⟨_, rfl⟩
      have hjn : j < n := by omega
      have ej : (n : Int) - 1 - k = (j : Int) := by omega
      obtain ⟨ba, oa, rfl, hba, _, _⟩ := HU.out.at_ (i := j) (by rw [← HN.out]; exact hjn)
      obtain ⟨c1, c2⟩ := (HU.out.grows (HG.out.trans G.out)).at_cell (i := j) (by rw [← HN.out]; exact hjn)
      have HF : Hid (flat (L.reverse.take (k + 1)) = flat (L.reverse.take k) ++ [.int .i64 (L.getD j (0, 0)).1, .int .i64 (L.getD j (0, 0)).2]) := Lib.hid (by
        rw [flat_more _ k (by rw [List.length_reverse, ← HN.out]; exact hkn)]
        have := gp_reverse L k (by rw [← HN.out]; exact hkn)
        unfold gp at this
        rw [this, ← HN.out, ← hj])
      have HEND : Hid (∀ x : Int, x = (j : Int) - 1 → Value.int .i64 x = .int .i64 ((n : Int) - 1 - ((k + 1 : Nat) : Int))) := Lib.hid fun x hx => by rw [hx]; congr 1; omega
      generalize L.getD j (0, 0) = p at c1 c2 HF
      obtain ⟨px, py⟩ := p
      simp only at c1 c2 HF
      simp only [ej]
      have e1 : IntKind.i64.wrap ((j : Int) - 1) = (j : Int) - 1 := IntWalk.i64_in _ (by omega)
      have i1 : (0 : Int) ≤ (j : Int) := by omega
      have HSZ := Lib.hid G.out.size
      clear hj ej
      go_wp2_with (at_builtin; go_loud (refine append_row rfl _ _ 22 rfl w1.heap.size 24 i0 _ 2 16 Try.underlying22 hi0 hz0 hz1 hz2 rfl (by decide) _ k _ rfl (ownsRow_grows HOW.out ((Grows.refl _).al _)) 1 [.int .i64 px, .int .i64 py] _ rfl (row2 _ _ _ _ rfl rfl) (by unfold maxLen; omega) (by omega) (by have := HSZ.out; rw [World.size_alloc]; omega) ?_; intro v5 w5 hown5 hgr5; have O5 := Lib.hid hown5; have G5 := Lib.hid (hgr5 w1 (G.out.al _) (Nat.le_refl _)); clear hown5 hgr5))
      exact ⟨⟨k + 1, _, rfl, HEND.out _ rfl, by omega, by rw [HF.out]; exact O5.out, G5.out⟩, by simp only [intOf]; omega⟩
    · have hkn' : n = k := by omega
      subst hkn'
      have HP : Hid (PtsAt wr u L.reverse) := Lib.hid (own_pts (by have := HOW.out; rwa [List.take_of_length_le (by rw [List.length_reverse, ← HN.out]; exact Nat.le_refl _)] at this) (by rw [List.length_reverse, ← HN.out]) (by rw [List.length_reverse, ← HN.out]; omega))
      have em : (n : Int) - 1 - n = -1 := by omega
      simp only [em]
      clear em HOW
      clear hk hkn
      have GALL := Lib.hid (HG.out.trans G.out)
      have hL4 : L.length ≤ 1000 := by rw [← HN.out]; omega
      have hR4 : L.reverse.length ≤ 1000 := by rw [List.length_reverse]; exact hL4
      have HPL := Lib.hid (fun w' (hg : Grows wr w') => parts_PV (.slice a n c) L b w' (HU.out.grows (GALL.out.trans hg)) hL4)
      have HPR := Lib.hid (fun w' (hg : Grows wr w') => parts_PV u L.reverse b w' (HP.out.grows hg) hR4)
      have HCL := Lib.hid (fun w' (hg : Grows wr w') => count_any (.slice a n c) L b w' (HU.out.grows (GALL.out.trans hg)) hL4)
      have HCR := Lib.hid (fun w' (hg : Grows wr w') => count_any u L.reverse b w' (HP.out.grows hg) hR4)
      have HML := Lib.hid (fun w' (hg : Grows wr w') => meets_any (.slice a n c) L b w' (HU.out.grows (GALL.out.trans hg)) hL4)
      have HMR := Lib.hid (fun w' (hg : Grows wr w') => meets_any u L.reverse b w' (HP.out.grows hg) hR4)
      rw [show cntL (partsI (shS b L.reverse) L.reverse.length 0) = cntL (partsI (shS b L) L.length 0) from by rw [List.length_reverse]; exact cnt_reverse b L] at HCR
      rw [meets_reverse] at HMR
      generalize meetsF L b = mt at HML HMR
      generalize cntL (partsI (shS b L) L.length 0) = C at HCL HCR
      clear hL4 hR4
      go_wp2_with fail
      refine wp_region_tab 6 (by kernel_rfl) (by kernel_rfl) ?_
      intro w0 hw0 hg1 hg1'
      simp only [List.take_succ_cons, List.take_zero, List.drop_succ_cons, List.drop_zero]
      refine tab_val (.slice a n c) (fun r w1 hr hg hA => by obtain ⟨q0, -⟩ := hA; have q0e : r (.tmp 0) = .slice a n c := q0; exact ⟨rfl, by simp [go_sem, q0e]⟩) ?_
      refine tab_val (bx b) (fun r w1 hr hg hA => by obtain ⟨q0, -⟩ := hA; have q0e : r (.tmp 3) = .pointer (some ⟨w.heap.size, 0, none⟩) := q0; have hc := BX.out _ (GALL.out.trans (hg1.trans hg)); exact ⟨rfl, by simp [go_sem, q0e, hc]⟩) ?_
      refine tab_callQ (PartsV b L) (PartsV.up b L) (fun r w1 hr hg hA => by obtain ⟨⟨_, q0⟩, ⟨_, q1⟩, -⟩ := hA; have q0e : r (.tmp 29) = .slice a n c := q0; have q1e : r (.tmp 30) = bx b := q1; exact ⟨rfl, _, by simp [go_sem, hr.func, q0e, q1e], HPL.out w1 (hg1.trans hg)⟩) ?_
      refine tab_val (u) (fun r w1 hr hg hA => by obtain ⟨q0, -⟩ := hA; have q0e : r (.tmp 5) = u := q0; exact ⟨rfl, by simp [go_sem, q0e]⟩) ?_
      refine tab_val (bx b) (fun r w1 hr hg hA => by obtain ⟨q0, -⟩ := hA; have q0e : r (.tmp 3) = .pointer (some ⟨w.heap.size, 0, none⟩) := q0; have hc := BX.out _ (GALL.out.trans (hg1.trans hg)); exact ⟨rfl, by simp [go_sem, q0e, hc]⟩) ?_
      refine tab_callQ (PartsV b L.reverse) (PartsV.up b L.reverse) (fun r w1 hr hg hA => by obtain ⟨⟨_, q0⟩, ⟨_, q1⟩, -⟩ := hA; have q0e : r (.tmp 32) = u := q0; have q1e : r (.tmp 33) = bx b := q1; exact ⟨rfl, _, by simp [go_sem, hr.func, q0e, q1e], HPR.out w1 (hg1.trans hg)⟩) ?_
      refine tab_end ?_
      simp only [List.reverse_cons, List.reverse_nil, List.nil_append, List.cons_append, Out, BlockP, forall_eq, forall_const, Act.put, List.setIfInBounds_toArray, List.set_cons_succ, List.set_cons_zero]
      intro wA hgA
      rintro v31 ⟨g1, cp1, own31, pt31⟩ v34 ⟨g2, cp2, own34, pt34⟩
      have GA := Lib.hid (hg1.trans hgA)
      have GB := Lib.hid (GALL.out.trans (hg1.trans hgA))
      rw [show L.reverse.length = L.length from List.length_reverse, parts_reverse, List.length_reverse, List.length_map] at own34
      rw [show L.reverse.length = L.length from List.length_reverse] at pt34
      obtain ⟨a1, p1, rfl, hm1, _, hc1⟩ := own1_form own31
      obtain ⟨a2, p2, rfl, hm2, _, hc2⟩ := own1_form own34
      have HC1 := Lib.hid hc1
      have HC2 := Lib.hid hc2
      have HPT1 := Lib.hid pt31
      have HPT2 := Lib.hid pt34
      have hml : (partsI (shS b L) L.length 0).length ≤ 40 := by have := parts_len (shS b L) L.length; rw [← HN.out] at this ⊢; omega
      obtain ⟨m, hm⟩ : ∃ m, m = (partsI (shS b L) L.length 0).length := ⟨_, rfl⟩
      rw [← hm] at hm1 hm2 hml ⊢
      have HM := Lib.hid hm
      clear hm own31 own34 pt31 pt34 hc1 hc2 hg1 hgA hg1' hw0 HPL HPR
      go_wp2_with fail
      refine wp_region_tab 14 (by kernel_rfl) (by kernel_rfl) ?_
      intro w0 hw0 hg1 hg1'
      simp only [List.take_succ_cons, List.take_zero, List.drop_succ_cons, List.drop_zero]
      refine tab_val (.slice a1 m p1) (fun r w1 hr hg hA => by obtain ⟨q0, -⟩ := hA; have q0e : r (.tmp 7) = .slice a1 m p1 := q0; exact ⟨rfl, by simp [go_sem, q0e]⟩) ?_
      refine tab_val (.int .i64 (m : Int)) (fun r w1 hr hg hA => by obtain ⟨⟨_, q0⟩, -⟩ := hA; have q0e : r (.tmp 35) = .slice a1 m p1 := q0; exact ⟨rfl, by simp [go_sem, q0e]⟩) ?_
      refine tab_val (.slice a2 m p2) (fun r w1 hr hg hA => by obtain ⟨q0, -⟩ := hA; have q0e : r (.tmp 8) = .slice a2 m p2 := q0; exact ⟨rfl, by simp [go_sem, q0e]⟩) ?_
      refine tab_val (.int .i64 (m : Int)) (fun r w1 hr hg hA => by obtain ⟨⟨_, q0⟩, -⟩ := hA; have q0e : r (.tmp 37) = .slice a2 m p2 := q0; exact ⟨rfl, by simp [go_sem, q0e]⟩) ?_
      refine tab_val (.bool false) (fun r w1 hr hg hA => by obtain ⟨⟨_, q0⟩, ⟨_, q1⟩, -⟩ := hA; have q0e : r (.tmp 36) = .int .i64 (m : Int) := q0; have q1e : r (.tmp 38) = .int .i64 (m : Int) := q1; exact ⟨rfl, by simp [go_sem, q0e, q1e]⟩) ?_
      refine tab_val (.bool false) (fun r w1 hr hg hA => by obtain ⟨⟨_, q0⟩, -⟩ := hA; have q0e : r (.tmp 39) = .bool false := q0; exact ⟨rfl, by simp [go_sem, q0e]⟩) ?_
      refine tab_val (.slice a n c) (fun r w1 hr hg hA => by obtain ⟨q0, ⟨_, q1⟩, -⟩ := hA; have q0e : r (.tmp 0) = .slice a n c := q0; have q1e : r (.tmp 40) = .bool false := q1; exact ⟨⟨_, q1e, rfl⟩, by simp [go_sem, q0e]⟩) ?_
      refine tab_val (bx b) (fun r w1 hr hg hA => by obtain ⟨q0, ⟨_, q1⟩, -⟩ := hA; have q0e : r (.tmp 3) = .pointer (some ⟨w.heap.size, 0, none⟩) := q0; have q1e : r (.tmp 40) = .bool false := q1; have hc := BX.out _ (GB.out.trans (hg1.trans hg)); exact ⟨⟨_, q1e, rfl⟩, by simp [go_sem, q0e, hc]⟩) ?_
      refine tab_callP (v := .int .i64 (C : Int)) (fun r w1 hr hg hA => by obtain ⟨⟨_, q0⟩, ⟨_, q1⟩, ⟨_, q2⟩, -⟩ := hA; have q0e : r (.tmp 41) = .slice a n c := q0; have q1e : r (.tmp 42) = bx b := q1; have q2e : r (.tmp 40) = .bool false := q2; exact ⟨⟨_, q2e, rfl⟩, _, by simp [go_sem, hr.func, q0e, q1e], HCL.out w1 (GA.out.trans (hg1.trans hg))⟩) ?_
      refine tab_val (u) (fun r w1 hr hg hA => by obtain ⟨q0, ⟨_, q1⟩, -⟩ := hA; have q0e : r (.tmp 5) = u := q0; have q1e : r (.tmp 40) = .bool false := q1; exact ⟨⟨_, q1e, rfl⟩, by simp [go_sem, q0e]⟩) ?_
      refine tab_val (bx b) (fun r w1 hr hg hA => by obtain ⟨q0, ⟨_, q1⟩, -⟩ := hA; have q0e : r (.tmp 3) = .pointer (some ⟨w.heap.size, 0, none⟩) := q0; have q1e : r (.tmp 40) = .bool false := q1; have hc := BX.out _ (GB.out.trans (hg1.trans hg)); exact ⟨⟨_, q1e, rfl⟩, by simp [go_sem, q0e, hc]⟩) ?_
      refine tab_callP (v := .int .i64 (C : Int)) (fun r w1 hr hg hA => by obtain ⟨⟨_, q0⟩, ⟨_, q1⟩, ⟨_, q2⟩, -⟩ := hA; have q0e : r (.tmp 44) = u := q0; have q1e : r (.tmp 45) = bx b := q1; have q2e : r (.tmp 40) = .bool false := q2; exact ⟨⟨_, q2e, rfl⟩, _, by simp [go_sem, hr.func, q0e, q1e], HCR.out w1 (GA.out.trans (hg1.trans hg))⟩) ?_
      refine tab_val (.bool false) (fun r w1 hr hg hA => by obtain ⟨⟨_, q0⟩, ⟨_, q1⟩, ⟨_, q2⟩, -⟩ := hA; have q0e : r (.tmp 43) = .int .i64 (C : Int) := q0; have q1e : r (.tmp 46) = .int .i64 (C : Int) := q1; have q2e : r (.tmp 40) = .bool false := q2; exact ⟨⟨_, q2e, rfl⟩, by simp [go_sem, q0e, q1e]⟩) ?_
      refine tab_val (.bool false) (fun r w1 hr hg hA => by obtain ⟨⟨_, q0⟩, ⟨_, q1⟩, -⟩ := hA; have q0e : r (.tmp 40) = .bool false := q0; have q1e : r (.tmp 47) = .bool false := q1; exact ⟨rfl, by simp [go_sem, q0e, q1e]⟩) ?_
      refine tab_end ?_
      simp only [List.reverse_cons, List.reverse_nil, List.nil_append, List.cons_append, Out, BlockP, forall_eq, forall_const, Act.put, List.setIfInBounds_toArray, List.set_cons_succ, List.set_cons_zero]
      intro wB hgA
      have GC := Lib.hid (GB.out.trans (hg1.trans hgA))
      have GD := Lib.hid (GA.out.trans (hg1.trans hgA))
      have GAB := Lib.hid (hg1.trans hgA)
      clear hg1 hgA hg1' hw0 HCL HCR
      go_wp2
      obtain ⟨wo, rfl⟩ : ∃ wo : World, wo = wB := ⟨_, rfl⟩
      go_loopw [9] (fun i wr2 => ∃ k : Nat, i = .int .i64 (k : Int) ∧ k ≤ m ∧ Grows wo wr2) (fun i _ => m + 1 - (intOf i).toNat)
      case atStart => exact ⟨0, rfl, Nat.zero_le _, Grows.refl _⟩
      case round =>
        obtain ⟨k, rfl, hk, hg⟩ := hrel
        have G2 := Lib.hid hg
        clear hg
        by_cases hkm : k < m
        · obtain ⟨j, hj⟩ : ∃ j : Nat, j = m - 1 - k := ⟨_, rfl⟩
          have hjm : j < m := by omega
          have hkp : k < (partsI (shS b L) L.length 0).length := by rw [← HM.out]; exact hkm
          have hpm := List.getElem_mem hkp
          obtain ⟨ga1, rfl, hd1⟩ := HC1.out k (rowV g1 (partsI (shS b L) L.length 0)[k]) (by rw [List.getElem?_map, List.getElem?_eq_getElem hkp]; rfl)
          obtain ⟨ga2, rfl, hd2⟩ := HC2.out j (rowV g2 (flipI L.length (partsI (shS b L) L.length 0)[k])) (by
            rw [List.getElem?_map, List.getElem?_reverse (by rw [List.length_map, ← HM.out]; exact hjm), List.length_map, ← HM.out, show m - 1 - j = k by omega, List.getElem?_map, List.getElem?_eq_getElem hkp]; rfl)
          have hLne : ¬ L = [] := fun h => by
            have := parts_len (shS b L) L.length
            rw [← HM.out, h] at this
            simp at this
            omega
          obtain ⟨i0, j0, d, er1, er2, hd0, hdn, hcnt, hpts⟩ := part_facts (W := wA) (g1 := g1) (cp1 := cp1) (g2 := g2) (cp2 := cp2) (L := L) b rfl (HPT1.out.resolve_left hLne) (HPT2.out.resolve_left (by simpa using hLne)) (by rw [← HN.out]; omega) _ hpm
          rw [er1] at hd1
          rw [er2] at hd2
          rw [← HN.out] at hdn
          have D1 : Hid (∀ w', Grows wr w' → w'.cell? ⟨ga1, k, none⟩ = some (.slice (some ⟨g1, i0 * 2, none⟩) (d + 1) (d + 1))) := Lib.hid fun w' hg => hd1 w' (GAB.out.trans (G2.out.trans hg))
          have D2 : Hid (∀ w', Grows wr w' → w'.cell? ⟨ga2, j, none⟩ = some (.slice (some ⟨g2, j0 * 2, none⟩) (d + 1) (d + 1))) := Lib.hid fun w' hg => hd2 w' (GAB.out.trans (G2.out.trans hg))
          have HCNT := Lib.hid hcnt
          have HPTS := Lib.hid hpts
          have m1 : IntKind.i64.wrap ((m : Int) - 1) = (m : Int) - 1 := IntWalk.i64_in _ (by omega)
          have m2 : (m : Int) - 1 - (k : Int) = (j : Int) := by omega
          have m3 : IntKind.i64.wrap (j : Int) = (j : Int) := IntWalk.i64_in _ (by omega)
          clear hd1 hd2 er1 er2 hcnt hpts hpm hLne hj hkp
          have x1 := D1.out wr (Grows.refl _)
          have x2 := D2.out wr (Grows.refl _)
          have hk0 : (k : Int) < (m : Int) := by omega
          have hj0 : (j : Int) < (m : Int) := by omega
          clear HC1 HC2 HPT1 HPT2
          go_wp2_with fail
          go_quiet (fail)
          rename_i nq
          have gd : Grows wr (wr.drewN nq) := ⟨rfl, rfl, rfl, Nat.le_refl _, fun _ _ => rfl⟩
          generalize wr.drewN nq = wC at gd ⊢
          have G3 := Lib.hid (G2.out.trans gd)
          have HC9 := Lib.hid (HCNT.out wC (GAB.out.trans G3.out))
          have cb := BX.out wC (GC.out.trans G3.out)
          clear gd
          obtain ⟨cb0, cb1, cb2, cb3⟩ := cb
          clear x1 x2 hk0 hj0 m1 m2 m3 HCNT
          have d0 : (d : Int) + 1 - 1 = (d : Int) := by omega
          have d1 : IntKind.i64.wrap (d : Int) = (d : Int) := IntWalk.i64_in _ (by omega)
          have d2 : ¬ ((d : Int) + 1 < 2) := by omega
          go_wp2_with fail
          refine HC9.out.mono ?_
          rintro _ wD ⟨rfl, hg⟩
          have G4 := Lib.hid (G3.out.trans hg)
          clear hg cb0 cb1 cb2 cb3
          go_wp2
          clear d0 d1 d2
          obtain ⟨wp, rfl⟩ : ∃ wp : World, wp = wD := ⟨_, rfl⟩
          go_loopw [12] (fun i wr3 => ∃ t : Nat, i = .int .i64 (t : Int) ∧ t ≤ d + 1 ∧ Grows wp wr3) (fun i _ => d + 2 - (intOf i).toNat)
          case atStart => exact ⟨0, rfl, Nat.zero_le _, Grows.refl _⟩
          case round =>
            obtain ⟨t, rfl, ht, hg⟩ := hrel
            have G5 := Lib.hid hg
            clear hg
            by_cases htd : t < d + 1
            · obtain ⟨x, y, hxy, hce⟩ := HPTS.out t (by omega)
              obtain ⟨q, hq⟩ : ∃ q : Nat, q = d - t := ⟨_, rfl⟩
              rw [← hq] at hce
              have hqd : q < d + 1 := by omega
              have GE := Lib.hid (GC.out.trans (G4.out.trans G5.out))
              have CE := Lib.hid (fun w' (hg : Grows wr w') => hce w' (GAB.out.trans (G4.out.trans (G5.out.trans hg))))
              have HMT : Hid (∀ w, Calls Try.prog 26 #[bx b, bx ⟨x, y, x, y⟩] w (Ret (.bool true) w)) := Lib.hid fun w => by
                have := meet_any b ⟨x, y, x, y⟩ w
                rwa [meet_point, hxy] at this
              have n0 : (d : Int) + 1 - 1 = (d : Int) := by omega
              have n1 : IntKind.i64.wrap (d : Int) = (d : Int) := IntWalk.i64_in _ (by omega)
              have n2 : (d : Int) - (t : Int) = (q : Int) := by omega
              have n3 : IntKind.i64.wrap (q : Int) = (q : Int) := IntWalk.i64_in _ (by omega)
              have htd9 : ¬ ((d : Int) + 1 ≤ (t : Int)) := by omega
              have hqd9 : ¬ ((d : Int) + 1 ≤ (q : Int)) := by omega
              clear hce hxy hq
              go_wp2_with fail
              refine wp_region_tab 27 (by kernel_rfl) (by kernel_rfl) ?_
              intro w0 hw0 hg1 hg1'
              simp only [List.take_succ_cons, List.take_zero, List.drop_succ_cons, List.drop_zero]
              refine tab_val (.slice (some ⟨g1, i0 * 2, none⟩) (d + 1) (d + 1)) (fun r w1 hr hg hA => by obtain ⟨q0, -⟩ := hA; have q0e : r (.tmp 10) = .slice (some ⟨g1, i0 * 2, none⟩) (d + 1) (d + 1) := q0; exact ⟨rfl, by simp [go_sem, q0e]⟩) ?_
              refine tab_val (.int .i64 (t : Int)) (fun r w1 hr hg hA => by obtain ⟨q0, -⟩ := hA; have q0e : r (.tmp 12) = .int .i64 (t : Int) := q0; exact ⟨rfl, by simp [go_sem, q0e]⟩) ?_
              refine tab_val (.pointer (some ⟨g1, i0 * 2 + t * 2, none⟩)) (fun r w1 hr hg hA => by obtain ⟨⟨_, q0⟩, ⟨_, q1⟩, -⟩ := hA; have q0e : r (.tmp 92) = .slice (some ⟨g1, i0 * 2, none⟩) (d + 1) (d + 1) := q0; have q1e : r (.tmp 93) = .int .i64 (t : Int) := q1; exact ⟨rfl, by simp [go_sem, q0e, q1e, htd9]⟩) ?_
              refine tab_val (pt x y) (fun r w1 hr hg hA => by obtain ⟨⟨_, q0⟩, -⟩ := hA; have q0e : r (.tmp 94) = .pointer (some ⟨g1, i0 * 2 + t * 2, none⟩) := q0; have hc := And.intro (CE.out _ (hg1.trans hg)) (BX.out _ (GE.out.trans (hg1.trans hg))); exact ⟨rfl, by simp [go_sem, q0e, hc]⟩) ?_
              refine tab_val (.slice (some ⟨g2, j0 * 2, none⟩) (d + 1) (d + 1)) (fun r w1 hr hg hA => by obtain ⟨q0, -⟩ := hA; have q0e : r (.tmp 11) = .slice (some ⟨g2, j0 * 2, none⟩) (d + 1) (d + 1) := q0; exact ⟨rfl, by simp [go_sem, q0e]⟩) ?_
              refine tab_val (.slice (some ⟨g2, j0 * 2, none⟩) (d + 1) (d + 1)) (fun r w1 hr hg hA => by obtain ⟨q0, -⟩ := hA; have q0e : r (.tmp 11) = .slice (some ⟨g2, j0 * 2, none⟩) (d + 1) (d + 1) := q0; exact ⟨rfl, by simp [go_sem, q0e]⟩) ?_
              refine tab_val (.int .i64 ((d : Int) + 1)) (fun r w1 hr hg hA => by obtain ⟨⟨_, q0⟩, -⟩ := hA; have q0e : r (.tmp 97) = .slice (some ⟨g2, j0 * 2, none⟩) (d + 1) (d + 1) := q0; exact ⟨rfl, by simp [go_sem, q0e]⟩) ?_
              refine tab_val (.int .i64 (d : Int)) (fun r w1 hr hg hA => by obtain ⟨⟨_, q0⟩, -⟩ := hA; have q0e : r (.tmp 98) = .int .i64 ((d : Int) + 1) := q0; exact ⟨rfl, by simp [go_sem, hr.const, q0e, n0, n1]⟩) ?_
              refine tab_val (.int .i64 (t : Int)) (fun r w1 hr hg hA => by obtain ⟨q0, -⟩ := hA; have q0e : r (.tmp 12) = .int .i64 (t : Int) := q0; exact ⟨rfl, by simp [go_sem, q0e]⟩) ?_
              refine tab_val (.int .i64 (q : Int)) (fun r w1 hr hg hA => by obtain ⟨⟨_, q0⟩, ⟨_, q1⟩, -⟩ := hA; have q0e : r (.tmp 99) = .int .i64 (d : Int) := q0; have q1e : r (.tmp 100) = .int .i64 (t : Int) := q1; exact ⟨rfl, by simp [go_sem, q0e, q1e, n2, n3]⟩) ?_
              refine tab_val (.pointer (some ⟨g2, j0 * 2 + q * 2, none⟩)) (fun r w1 hr hg hA => by obtain ⟨⟨_, q0⟩, ⟨_, q1⟩, -⟩ := hA; have q0e : r (.tmp 96) = .slice (some ⟨g2, j0 * 2, none⟩) (d + 1) (d + 1) := q0; have q1e : r (.tmp 101) = .int .i64 (q : Int) := q1; exact ⟨rfl, by simp [go_sem, q0e, q1e, hqd9]⟩) ?_
              refine tab_val (pt x y) (fun r w1 hr hg hA => by obtain ⟨⟨_, q0⟩, -⟩ := hA; have q0e : r (.tmp 102) = .pointer (some ⟨g2, j0 * 2 + q * 2, none⟩) := q0; have hc := And.intro (CE.out _ (hg1.trans hg)) (BX.out _ (GE.out.trans (hg1.trans hg))); exact ⟨rfl, by simp [go_sem, q0e, hc]⟩) ?_
              refine tab_val (.bool false) (fun r w1 hr hg hA => by obtain ⟨⟨_, q0⟩, ⟨_, q1⟩, -⟩ := hA; have q0e : r (.tmp 95) = pt x y := q0; have q1e : r (.tmp 103) = pt x y := q1; exact ⟨rfl, by simp [go_sem, q0e, q1e]⟩) ?_
              refine tab_val (.bool false) (fun r w1 hr hg hA => by obtain ⟨⟨_, q0⟩, -⟩ := hA; have q0e : r (.tmp 104) = .bool false := q0; exact ⟨rfl, by simp [go_sem, q0e]⟩) ?_
              refine tab_val (bx b) (fun r w1 hr hg hA => by obtain ⟨q0, ⟨_, q1⟩, -⟩ := hA; have q0e : r (.tmp 3) = .pointer (some ⟨w.heap.size, 0, none⟩) := q0; have q1e : r (.tmp 105) = .bool false := q1; have hc := And.intro (CE.out _ (hg1.trans hg)) (BX.out _ (GE.out.trans (hg1.trans hg))); exact ⟨⟨_, q1e, rfl⟩, by simp [go_sem, q0e, hc]⟩) ?_
              refine tab_val (.slice (some ⟨g1, i0 * 2, none⟩) (d + 1) (d + 1)) (fun r w1 hr hg hA => by obtain ⟨q0, ⟨_, q1⟩, -⟩ := hA; have q0e : r (.tmp 10) = .slice (some ⟨g1, i0 * 2, none⟩) (d + 1) (d + 1) := q0; have q1e : r (.tmp 105) = .bool false := q1; exact ⟨⟨_, q1e, rfl⟩, by simp [go_sem, q0e]⟩) ?_
              refine tab_val (.int .i64 (t : Int)) (fun r w1 hr hg hA => by obtain ⟨q0, ⟨_, q1⟩, -⟩ := hA; have q0e : r (.tmp 12) = .int .i64 (t : Int) := q0; have q1e : r (.tmp 105) = .bool false := q1; exact ⟨⟨_, q1e, rfl⟩, by simp [go_sem, q0e]⟩) ?_
              refine tab_val (.pointer (some ⟨g1, i0 * 2 + t * 2, none⟩)) (fun r w1 hr hg hA => by obtain ⟨⟨_, q0⟩, ⟨_, q1⟩, ⟨_, q2⟩, -⟩ := hA; have q0e : r (.tmp 107) = .slice (some ⟨g1, i0 * 2, none⟩) (d + 1) (d + 1) := q0; have q1e : r (.tmp 108) = .int .i64 (t : Int) := q1; have q2e : r (.tmp 105) = .bool false := q2; exact ⟨⟨_, q2e, rfl⟩, by simp [go_sem, q0e, q1e, htd9]⟩) ?_
              refine tab_val (pt x y) (fun r w1 hr hg hA => by obtain ⟨⟨_, q0⟩, ⟨_, q1⟩, -⟩ := hA; have q0e : r (.tmp 109) = .pointer (some ⟨g1, i0 * 2 + t * 2, none⟩) := q0; have q1e : r (.tmp 105) = .bool false := q1; have hc := And.intro (CE.out _ (hg1.trans hg)) (BX.out _ (GE.out.trans (hg1.trans hg))); exact ⟨⟨_, q1e, rfl⟩, by simp [go_sem, q0e, hc]⟩) ?_
              refine tab_val (.slice (some ⟨g1, i0 * 2, none⟩) (d + 1) (d + 1)) (fun r w1 hr hg hA => by obtain ⟨q0, ⟨_, q1⟩, -⟩ := hA; have q0e : r (.tmp 10) = .slice (some ⟨g1, i0 * 2, none⟩) (d + 1) (d + 1) := q0; have q1e : r (.tmp 105) = .bool false := q1; exact ⟨⟨_, q1e, rfl⟩, by simp [go_sem, q0e]⟩) ?_
              refine tab_val (.int .i64 (t : Int)) (fun r w1 hr hg hA => by obtain ⟨q0, ⟨_, q1⟩, -⟩ := hA; have q0e : r (.tmp 12) = .int .i64 (t : Int) := q0; have q1e : r (.tmp 105) = .bool false := q1; exact ⟨⟨_, q1e, rfl⟩, by simp [go_sem, q0e]⟩) ?_
              refine tab_val (.pointer (some ⟨g1, i0 * 2 + t * 2, none⟩)) (fun r w1 hr hg hA => by obtain ⟨⟨_, q0⟩, ⟨_, q1⟩, ⟨_, q2⟩, -⟩ := hA; have q0e : r (.tmp 111) = .slice (some ⟨g1, i0 * 2, none⟩) (d + 1) (d + 1) := q0; have q1e : r (.tmp 112) = .int .i64 (t : Int) := q1; have q2e : r (.tmp 105) = .bool false := q2; exact ⟨⟨_, q2e, rfl⟩, by simp [go_sem, q0e, q1e, htd9]⟩) ?_
              refine tab_val (pt x y) (fun r w1 hr hg hA => by obtain ⟨⟨_, q0⟩, ⟨_, q1⟩, -⟩ := hA; have q0e : r (.tmp 113) = .pointer (some ⟨g1, i0 * 2 + t * 2, none⟩) := q0; have q1e : r (.tmp 105) = .bool false := q1; have hc := And.intro (CE.out _ (hg1.trans hg)) (BX.out _ (GE.out.trans (hg1.trans hg))); exact ⟨⟨_, q1e, rfl⟩, by simp [go_sem, q0e, hc]⟩) ?_
              refine tab_val (bx ⟨x, y, x, y⟩) (fun r w1 hr hg hA => by obtain ⟨⟨_, q0⟩, ⟨_, q1⟩, ⟨_, q2⟩, -⟩ := hA; have q0e : r (.tmp 110) = pt x y := q0; have q1e : r (.tmp 114) = pt x y := q1; have q2e : r (.tmp 105) = .bool false := q2; exact ⟨⟨_, q2e, rfl⟩, by simp [go_sem, q0e, q1e]⟩) ?_
              refine tab_call (v := .bool true) (fun w1 hg => HMT.out w1) (fun r w1 hr hg hA => by obtain ⟨⟨_, q0⟩, ⟨_, q1⟩, ⟨_, q2⟩, -⟩ := hA; have q0e : r (.tmp 106) = bx b := q0; have q1e : r (.tmp 115) = bx ⟨x, y, x, y⟩ := q1; have q2e : r (.tmp 105) = .bool false := q2; exact ⟨⟨_, q2e, rfl⟩, by simp [go_sem, hr.func, q0e, q1e]⟩) ?_
              refine tab_val (.bool false) (fun r w1 hr hg hA => by obtain ⟨⟨_, q0⟩, ⟨_, q1⟩, -⟩ := hA; have q0e : r (.tmp 116) = .bool true := q0; have q1e : r (.tmp 105) = .bool false := q1; exact ⟨⟨_, q1e, rfl⟩, by simp [go_sem, q0e]⟩) ?_
              refine tab_val (.bool false) (fun r w1 hr hg hA => by obtain ⟨⟨_, q0⟩, ⟨_, q1⟩, -⟩ := hA; have q0e : r (.tmp 105) = .bool false := q0; have q1e : r (.tmp 117) = .bool false := q1; exact ⟨rfl, by simp [go_sem, q0e, q1e]⟩) ?_
              refine tab_end ?_
              simp only [List.reverse_cons, List.reverse_nil, List.nil_append, List.cons_append, Out, BlockP, forall_eq, forall_const, Act.put, List.setIfInBounds_toArray, List.set_cons_succ, List.set_cons_zero]
              intro wE hgA
              have G6 := Lib.hid (G5.out.trans (hg1.trans hgA))
              clear hg1 hgA hg1' hw0 n0 n1 n2 n3 htd9 hqd9
              have t1 : IntKind.i64.wrap ((t : Int) + 1) = (t : Int) + 1 := IntWalk.i64_in _ (by omega)
              go_wp2
              exact ⟨⟨t + 1, by simp, by omega, G6.out⟩, by simp only [intOf]; omega⟩
            · have htd' : t = d + 1 := by omega
              have t2 : ((d : Int) + 1 ≤ (t : Int)) := by omega
              go_wp2
              exact ⟨⟨k + 1, by simp, by omega, G4.out.trans G5.out⟩, by simp only [intOf]; omega⟩
        · have hkm' : m = k := by omega
          subst hkm'
          have GC := Lib.hid (GC.out.trans G2.out)
          have GD := Lib.hid (GD.out.trans G2.out)
          go_wp2_with fail
          refine wp_region_tab 10 (by kernel_rfl) (by kernel_rfl) ?_
          intro w0 hw0 hg1 hg1'
          simp only [List.take_succ_cons, List.take_zero, List.drop_succ_cons, List.drop_zero]
          refine tab_call (v := .bool true) (fun w1 hg => kn_any w1) (fun r w1 hr hg hA => by exact ⟨rfl, by simp [go_sem, hr.func]⟩) ?_
          refine tab_val (.bool true) (fun r w1 hr hg hA => by obtain ⟨⟨_, q0⟩, -⟩ := hA; have q0e : r (.tmp 119) = .bool true := q0; exact ⟨rfl, by simp [go_sem, q0e]⟩) ?_
          refine tab_val (.slice a n c) (fun r w1 hr hg hA => by obtain ⟨q0, ⟨_, q1⟩, -⟩ := hA; have q0e : r (.tmp 0) = .slice a n c := q0; have q1e : r (.tmp 120) = .bool true := q1; exact ⟨⟨_, q1e, rfl⟩, by simp [go_sem, q0e]⟩) ?_
          refine tab_val (bx b) (fun r w1 hr hg hA => by obtain ⟨q0, ⟨_, q1⟩, -⟩ := hA; have q0e : r (.tmp 3) = .pointer (some ⟨w.heap.size, 0, none⟩) := q0; have q1e : r (.tmp 120) = .bool true := q1; have hc := BX.out _ (GC.out.trans (hg1.trans hg)); exact ⟨⟨_, q1e, rfl⟩, by simp [go_sem, q0e, hc]⟩) ?_
          refine tab_callP (v := .bool mt) (fun r w1 hr hg hA => by obtain ⟨⟨_, q0⟩, ⟨_, q1⟩, ⟨_, q2⟩, -⟩ := hA; have q0e : r (.tmp 121) = .slice a n c := q0; have q1e : r (.tmp 122) = bx b := q1; have q2e : r (.tmp 120) = .bool true := q2; exact ⟨⟨_, q2e, rfl⟩, _, by simp [go_sem, hr.func, q0e, q1e], HML.out w1 (GD.out.trans (hg1.trans hg))⟩) ?_
          refine tab_val (u) (fun r w1 hr hg hA => by obtain ⟨q0, ⟨_, q1⟩, -⟩ := hA; have q0e : r (.tmp 5) = u := q0; have q1e : r (.tmp 120) = .bool true := q1; exact ⟨⟨_, q1e, rfl⟩, by simp [go_sem, q0e]⟩) ?_
          refine tab_val (bx b) (fun r w1 hr hg hA => by obtain ⟨q0, ⟨_, q1⟩, -⟩ := hA; have q0e : r (.tmp 3) = .pointer (some ⟨w.heap.size, 0, none⟩) := q0; have q1e : r (.tmp 120) = .bool true := q1; have hc := BX.out _ (GC.out.trans (hg1.trans hg)); exact ⟨⟨_, q1e, rfl⟩, by simp [go_sem, q0e, hc]⟩) ?_
          refine tab_callP (v := .bool mt) (fun r w1 hr hg hA => by obtain ⟨⟨_, q0⟩, ⟨_, q1⟩, ⟨_, q2⟩, -⟩ := hA; have q0e : r (.tmp 124) = u := q0; have q1e : r (.tmp 125) = bx b := q1; have q2e : r (.tmp 120) = .bool true := q2; exact ⟨⟨_, q2e, rfl⟩, _, by simp [go_sem, hr.func, q0e, q1e], HMR.out w1 (GD.out.trans (hg1.trans hg))⟩) ?_
          refine tab_val (.bool true) (fun r w1 hr hg hA => by obtain ⟨⟨_, q0⟩, ⟨_, q1⟩, ⟨_, q2⟩, -⟩ := hA; have q0e : r (.tmp 123) = .bool mt := q0; have q1e : r (.tmp 126) = .bool mt := q1; have q2e : r (.tmp 120) = .bool true := q2; exact ⟨⟨_, q2e, rfl⟩, by simp [go_sem, q0e, q1e]⟩) ?_
          refine tab_val (.bool true) (fun r w1 hr hg hA => by obtain ⟨⟨_, q0⟩, ⟨_, q1⟩, -⟩ := hA; have q0e : r (.tmp 120) = .bool true := q0; have q1e : r (.tmp 127) = .bool true := q1; exact ⟨rfl, by simp [go_sem, q0e, q1e]⟩) ?_
          refine tab_end ?_
          simp only [List.reverse_cons, List.reverse_nil, List.nil_append, List.cons_append, Out, BlockP, forall_eq, forall_const, Act.put, List.setIfInBounds_toArray, List.set_cons_succ, List.set_cons_zero]
          intro wF hgA
          have GF := Lib.hid (((Grows.refl w).al _).trans (GC.out.trans (hg1.trans hgA)))
          clear hg1 hgA hg1' hw0
          go_wp2
          go_ret
          exact ⟨rfl, GF.out⟩
end Go.Proofs.Ytlkihbehiojimaa
