/-
  Layer 22: the law on rows put together.
-/
import Derived.Test.YtlkihbehiojimaaK19
import Derived.Test.YtlkihbehiojimaaK9
import Derived.Test.YtlkihbehiojimaaCu
namespace Go.Proofs.Ytlkihbehiojimaa
open Go.RowKit Go.Tab Go.WideShapes

theorem joinS_bound {M : Nat} (s : List Row2 × Row2) (p : Row2) (k : Nat) (hp : p.length ≤ M) (h1 : ∀ q ∈ s.1, q.length ≤ M * k) (h2 : s.2.length ≤ M * k) :
    (∀ q ∈ (joinS s p).1, q.length ≤ M * (k + 1)) ∧ (joinS s p).2.length ≤ M * (k + 1) := by
  have hM : M * (k + 1) = M * k + M := Nat.mul_succ M k
  unfold joinS
  by_cases hp0 : p = []
  · rw [if_pos hp0]
    exact ⟨fun q hq => by have := h1 q hq; omega, by omega⟩
  · rw [if_neg hp0]
    split
    · refine ⟨fun q hq => by have := h1 q hq; omega, ?_⟩
      simp only [List.length_append, List.length_tail]
      omega
    · refine ⟨fun q hq => ?_, by simp only; omega⟩
      simp only at hq
      split at hq
      · have := h1 q hq; omega
      · rcases List.mem_append.1 hq with h | h
        · have := h1 q h; omega
        · simp at h; subst h; omega
theorem fold_bound {M : Nat} (ps : List Row2) (hp : ∀ q ∈ ps, q.length ≤ M) : ∀ (s : List Row2 × Row2) (k : Nat), (∀ q ∈ s.1, q.length ≤ M * k) → s.2.length ≤ M * k →
    (∀ q ∈ (ps.foldl joinS s).1, q.length ≤ M * (k + ps.length)) ∧ (ps.foldl joinS s).2.length ≤ M * (k + ps.length) := by
  induction ps with
  | nil => intro s k h1 h2; exact ⟨h1, h2⟩
  | cons p ps ih =>
    intro s k h1 h2
    obtain ⟨g1, g2⟩ := joinS_bound s p k (hp p (by simp)) h1 h2
    have := ih (fun q hq => hp q (by simp [hq])) _ _ g1 g2
    rw [List.length_cons, show k + (ps.length + 1) = k + 1 + ps.length by omega]
    exact this
theorem join_bound {M : Nat} (ps : List Row2) (hp : ∀ q ∈ ps, q.length ≤ M) : ∀ q ∈ joinF ps, q.length ≤ M * ps.length := by
  obtain ⟨g1, g2⟩ := fold_bound ps hp ([], []) 0 (fun q hq => by cases hq) (Nat.zero_le _)
  rw [Nat.zero_add] at g1 g2
  intro q hq
  unfold joinF outS at hq
  split at hq
  · exact g1 q hq
  · rcases List.mem_append.1 hq with h | h
    · exact g1 q h
    · simp at h; subst h; exact g2
theorem join_length (ps : List Row2) : (joinF ps).length ≤ ps.length := by
  have := join_len ps ([], [])
  rw [show (outS ([], []) : List Row2).length = 0 from rfl, Nat.zero_add] at this
  exact this

/-- An owned row of values that read as these rows. -/
theorem rows_vals {w : World} {base : Nat} {T2 : TypeId} {v : Value} {vs : List Value} {ps : List (List (Int × Int))} (h : w.ownsRow base T2 1 v vs.length vs) (hl : vs.length = ps.length) (hr : ∀ (i : Nat) (x : Value) (q : List (Int × Int)), vs[i]? = some x → ps[i]? = some q → PtsAt w x q) : RowsAt w v ps := by
  obtain ⟨_, ⟨rfl, hn⟩ | ⟨g, cap, cur, rfl, hb, hh, h1, h2, h3, h4⟩⟩ := h
  · have : ps = [] := List.eq_nil_of_length_eq_zero (by rw [← hl]; exact hn)
    subst this
    exact ⟨none, 0, rfl, Nat.le_refl _, fun _ => rfl, fun i q hq => by simp at hq⟩
  · refine ⟨_, cap, by rw [← hl], by rw [← hl]; exact h1, (fun h => by cases h), fun i q hq => ?_⟩
    have hi : i < vs.length := by rw [hl]; exact (List.getElem?_eq_some_iff.1 hq).1
    have hx := List.getElem?_eq_getElem hi
    refine ⟨g, 0, vs[i], rfl, (Array.getElem?_eq_some_iff.1 hh).1, ?_, hr i _ q hx hq⟩
    have hx' : cur[i]? = some vs[i] := by
      have : (List.take (vs.length * 1) cur.toList)[i]? = vs[i]? := by rw [h4]
      rw [List.getElem?_take_of_lt (by omega), hx] at this
      rw [← Array.getElem?_toList]; exact this
    simp only [World.cell?, hh, Nat.zero_add]
    exact hx'
theorem range_snoc {α : Type} (f : Nat → α) (k : Nat) : (List.range (k + 1)).map f = (List.range k).map f ++ [f k] := by simp [List.range_succ]

set_option maxRecDepth 100000 in
set_option maxHeartbeats 8000000 in
theorem joins_law (a : Option Addr) (n c : Nat) (A : Nat → Option Addr) (N C : Nat → Nat) (R : Nat → List (Int × Int)) (w : World) (hnc : n ≤ c)
    (hc : n = 0 ∨ ∃ b off, a = some ⟨b, off, none⟩ ∧ b < w.heap.size ∧ ∀ i, i < n → w.cell? ⟨b, off + i, none⟩ = some (.slice (A i) (N i) (C i)))
    (hr : ∀ i, i < n → N i ≤ C i ∧ (A i = none → C i = 0) ∧ PtsAt w (.slice (A i) (min (N i) 40) (C i)) (R i)) (hR : ∀ i, (R i).length = min (N i) 40) :
    Calls Try.prog 4 #[.slice a n c] w (Ret (.bool true) w) := by
  obtain ⟨i0, hi0, hz0, hz1, hz2⟩ := info_parts infoRowP
  obtain ⟨j0, hj0, hy0, hy1, hy2⟩ := info_parts infoRow
  have HC := Lib.hid hc
  have HR := Lib.hid hr
  have HRL := Lib.hid (fun i => (show (R i).length ≤ 40 by rw [hR i]; exact Nat.min_le_right _ _))
  clear hc hr hR
  go_enter Try.func4, Try.ntmps4
  go_wp2
  go_loopw [3, 4, 5] (fun s' u' i wr => ∃ (k : Nat) (sv wv : Value) (us : List Value), sv = s' ∧ wv = u' ∧ i = .int .i64 (k : Int) ∧ k ≤ n ∧ k ≤ 10 ∧ Hid (wr.ownsRow w.heap.size 22 1 sv k ((List.range k).map fun i => .slice (A i) (min (N i) 40) (C i))) ∧ Hid (wr.ownsRow w.heap.size 28 1 wv k us) ∧ Hid (Fin 30 wr.heap.size wr us ((List.range k).map R)) ∧ Hid (Grows w wr)) (fun _ _ i _ => 11 - (intOf i).toNat)
  case atStart => exact ⟨0, _, _, [], rfl, rfl, rfl, Nat.zero_le _, Nat.zero_le _, Lib.hid (World.ownsRow_nil _ _ _ _), Lib.hid (World.ownsRow_nil _ _ _ _), Lib.hid (Fin.nil _ _ _), Lib.hid (Grows.refl _)⟩
  case round =>
    obtain ⟨k, sv, wv, us, rfl, rfl, rfl, hk, hk10, HS, HW, HF, G⟩ := hrel
    by_cases hgo : k < n ∧ k < 10
    · obtain ⟨hkn, hkt⟩ := hgo
      obtain ⟨ba, oa, rfl, hba, hcell⟩ : ∃ b off, a = some ⟨b, off, none⟩ ∧ b < w.heap.size ∧ w.cell? ⟨b, off + k, none⟩ = some (.slice (A k) (N k) (C k)) := by
        rcases HC.out with h | ⟨b, off, ha, hb, h⟩
        · omega
        · exact ⟨b, off, ha, hb, h k hkn⟩
      have HCX := Lib.hid (fun w' (hg : Grows w w') => (show w'.cell? ⟨ba, oa + k, none⟩ = some (.slice (A k) (N k) (C k)) by rw [Below.cell hg (p := ⟨ba, oa + k, none⟩) hba]; exact hcell))
      obtain ⟨hNC, hAC, hP⟩ := HR.out k hkn
      have HCUT := Lib.hid (fun w' => cut_slice (A k) (N k) (C k) w' hNC hAC)
      have HP := Lib.hid (fun w' (hg : Grows w w') => hP.grows hg)
      have HSS := Lib.hid (range_snoc (fun i => Value.slice (A i) (min (N i) 40) (C i)) k)
      have HRS := Lib.hid (range_snoc R k)
      have HRK := Lib.hid (HRL.out k)
      generalize A k = ak at HCX HCUT HP HSS
      generalize min (N k) 40 = mk at HCUT HP HSS
      generalize N k = nk at HCX HCUT
      generalize C k = ck at HCX HCUT HP HSS
      generalize R k = rk at HP HRS HRK
      have c1 := HCX.out wr G.out
      clear hcell hNC hAC hP
      go_wp2_with fail
      refine (HCUT.out _).mono ?_
      rintro _ w1 ⟨rfl, hg⟩
      have HS1 := Lib.hid (ownsRow_later HS.out hg)
      have HW1 := Lib.hid (ownsRow_later HW.out hg)
      have HF1 := Lib.hid ((HF.out.grows hg).more hg.size)
      have G1 := Lib.hid (G.out.trans hg)
      clear hg c1
      go_wp2_with (at_builtin; go_loud (refine append_row2 rfl _ _ 38 rfl w.heap.size 22 i0 _ 1 24 Try.underlying38 hi0 hz0 hz1 hz2 rfl (by decide) sv k _ rfl (ownsRow_later HS1.out ((Grows.refl _).al _)) 1 [.slice ak mk ck] _ rfl (rowOne _ _ _ _ rfl rfl) (by unfold maxLen; omega) (by omega) (by have := G1.out.size; rw [World.size_alloc]; omega) ?_; intro v5 w5 hown5 hgr5; have HS5 := Lib.hid hown5; have HW5 := Lib.hid (own_other (ownsRow_later HS1.out ((Grows.refl _).al _)) (ownsRow_later HW1.out ((Grows.refl _).al _)) (by decide) hgr5); have HF5 := Lib.hid (((HF1.out.grows ((Grows.refl _).al _)).other (ownsRow_later HS1.out ((Grows.refl _).al _)) (by decide) hgr5).more (by have := hgr5.size; rw [World.size_alloc] at this; omega : w1.heap.size ≤ w5.heap.size)); have G5 : Hid (Grows w w5) := Lib.hid (Below.grown (G1.out.al _) hgr5 (by have := G1.out.size; rw [World.size_alloc]; omega) (fun kk hkk => (own_lt HS1.out kk hkk).1)); have c2 := HCX.out w5 G5.out; clear hown5 hgr5))
      refine (HCUT.out _).mono ?_
      rintro _ w6 ⟨rfl, hg⟩
      have HS6 := Lib.hid (ownsRow_later HS5.out hg)
      have HW6 := Lib.hid (ownsRow_later HW5.out hg)
      have HF6 := Lib.hid ((HF5.out.grows hg).more hg.size)
      have G6 := Lib.hid (G5.out.trans hg)
      clear hg c2
      go_wp2_with fail
      refine (ofs_any _ rk _ (HP.out _ G6.out) (by have := HRK.out; omega)).mono ?_
      rintro _ w7 ⟨ov, rfl, hown, hg⟩
      obtain ⟨-, ao, co, rfl, -, -⟩ := own_one hown
      have HS7 := Lib.hid (ownsRow_later HS6.out hg)
      have HW7 := Lib.hid (ownsRow_later HW6.out hg)
      have HO7 := Lib.hid hown
      have HF7 := Lib.hid ((((HF6.out.grows hg).more hg.size)).push (x := .slice ao rk.length co) rfl (by have := HRK.out; omega) (own_base hown (Nat.zero_le _)) (fun kk hkk => (own_lt hown kk hkk).2))
      have G7 := Lib.hid (G6.out.trans hg)
      clear hg hown
      go_wp2_with (at_builtin; go_loud (refine append_row2 rfl _ _ 40 rfl w.heap.size 28 j0 _ 1 24 Try.underlying40 hj0 hy0 hy1 hy2 rfl (by decide) wv k _ rfl (ownsRow_later HW7.out ((Grows.refl _).al _)) 1 [.slice ao rk.length co] _ rfl (rowOne _ _ _ _ rfl rfl) (by unfold maxLen; omega) (by omega) (by have := G7.out.size; rw [World.size_alloc]; omega) ?_; intro v8 w8 hown8 hgr8; have HW8 := Lib.hid hown8; have HS8 := Lib.hid (own_other (ownsRow_later HW7.out ((Grows.refl _).al _)) (ownsRow_later HS7.out ((Grows.refl _).al _)) (by decide) hgr8); have HF8 := Lib.hid (((HF7.out.grows ((Grows.refl _).al _)).other (ownsRow_later HW7.out ((Grows.refl _).al _)) (by decide) hgr8).more (by have := hgr8.size; rw [World.size_alloc] at this; omega : w7.heap.size ≤ w8.heap.size)); have G8 : Hid (Grows w w8) := Lib.hid (Below.grown (G7.out.al _) hgr8 (by have := G7.out.size; rw [World.size_alloc]; omega) (fun kk hkk => (own_lt HW7.out kk hkk).1)); clear hown8 hgr8))
      exact ⟨⟨k + 1, v5, v8, us ++ [.slice ao rk.length co], rfl, rfl, by simp, by omega, by omega, Lib.hid (by rw [HSS.out]; exact HS8.out), HW8, Lib.hid (by rw [HRS.out]; exact HF8.out), G8⟩, by simp only [intOf]; omega⟩
    · obtain ⟨ps, hps⟩ : ∃ ps, ps = (List.range k).map R := ⟨_, rfl⟩
      have hpl : ps.length = k := by rw [hps]; simp
      have hq40 : ∀ q ∈ ps, q.length ≤ 40 := fun q hq => by
        rw [hps] at hq
        obtain ⟨i, _, rfl⟩ := List.mem_map.1 hq
        exact HRL.out i
      have hpn : ps.length ≤ 100 := by omega
      have HQ40 := Lib.hid hq40
      have HSV := Lib.hid (show RowsAt wr sv ps from rows_vals (vs := (List.range k).map fun i => .slice (A i) (min (N i) 40) (C i)) (by have h1 := HS.out; rw [List.length_map, List.length_range]; exact h1) (by rw [hpl]; simp) (fun i x q hx hq => by
        rw [hps] at hq
        have hik : i < k := by have := (List.getElem?_eq_some_iff.1 hx).1; simpa using this
        rw [List.getElem?_map, List.getElem?_range hik] at hx hq
        cases hx
        cases hq
        exact (HR.out i (by omega)).2.2.grows G.out))
      have HWV := Lib.hid (show RowsAt wr wv ps from by
        have h1 := HW.out
        have h2 := HF.out
        rw [← hps] at h2
        have h3 : us.length = k := by rw [h2.1, hpl]
        rw [← h3] at h1
        exact rows_own h1 h2)
      have HJL := Lib.hid (show (joinF ps).length ≤ 100 from Nat.le_trans (join_length ps) hpn)
      have HJB : Hid (∀ q ∈ joinF ps, q.length ≤ 1000) := Lib.hid (fun q hq => by
        have h1 := join_bound ps hq40 q hq
        have h2 : 40 * ps.length ≤ 400 := by rw [hpl]; omega
        omega)
      have HJJ := Lib.hid (join_join ps)
      have HGO := Lib.hid hgo
      have HB1 : Hid (∀ q ∈ ps, q.length ≤ 1000) := Lib.hid (fun q hq => by have := hq40 q hq; omega)
      have hdec : (decide (k < n) && decide (k < 10)) = false := by rw [← Bool.not_eq_true]; simpa using hgo
      clear hps hpl hq40 hgo HS HW HF
      have REST : k < n → k = 10 := fun h => by have := HGO.out; omega
      have SPL : (k < n ∧ k = 10) ∨ ¬ k < n := by omega
      rcases SPL with ⟨hkn, rfl⟩ | hkn
      all_goals
        clear REST hdec
        go_wp2_with fail
        refine (join_any sv ps _ HSV.out hpn HB1.out).mono ?_
        rintro _ w1 ⟨av, rfl, hav, hg⟩
        obtain ⟨a1, c1, rfl, -, -, -⟩ := id hav
        have HAV := Lib.hid hav
        have HWV1 := Lib.hid (HWV.out.grows hg)
        have G1 := Lib.hid (G.out.trans hg)
        clear hg hav
        go_wp2_with fail
        refine (kn_any _).mono ?_
        rintro _ w2 ⟨rfl, hg⟩
        have HAV2 := Lib.hid (HAV.out.grows hg)
        have HWV2 := Lib.hid (HWV1.out.grows hg)
        have G2 := Lib.hid (G1.out.trans hg)
        clear hg
        go_wp2_with fail
        refine (rjoin_any wv ps _ HWV2.out hpn HB1.out).mono ?_
        rintro _ w3 ⟨bv, rfl, hbv, hg⟩
        have HAV3 := Lib.hid (HAV2.out.grows hg)
        have HWV3 := Lib.hid (HWV2.out.grows hg)
        have HBV := Lib.hid hbv
        have G3 := Lib.hid (G2.out.trans hg)
        clear hg hbv
        go_wp2_with fail
        refine (same22_true _ _ (joinF ps) _ HAV3.out HBV.out (by have := HJL.out; omega) HJB.out).mono ?_
        rintro _ w4 ⟨rfl, hg⟩
        have HAV4 := Lib.hid (HAV3.out.grows hg)
        have HWV4 := Lib.hid (HWV3.out.grows hg)
        have G4 := Lib.hid (G3.out.trans hg)
        clear hg
        go_wp2_with fail
        refine (join_any _ (joinF ps) _ HAV4.out HJL.out HJB.out).mono ?_
        rintro _ w5 ⟨cv, rfl, hcv, hg⟩
        have HCV := Lib.hid (by rw [HJJ.out] at hcv; exact hcv : RowsAt w5 cv (joinF ps))
        have HWV5 := Lib.hid (HWV4.out.grows hg)
        have G5 := Lib.hid (G4.out.trans hg)
        clear hg hcv
        go_wp2_with fail
        refine (rjoin_any wv ps _ HWV5.out hpn HB1.out).mono ?_
        rintro _ w6 ⟨dv, rfl, hdv, hg⟩
        have HCV6 := Lib.hid (HCV.out.grows hg)
        have HDV := Lib.hid hdv
        have G6 := Lib.hid (G5.out.trans hg)
        clear hg hdv
        go_wp2_with fail
        refine (same22_true _ _ (joinF ps) _ HCV6.out HDV.out (by have := HJL.out; omega) HJB.out).mono ?_
        rintro _ w7 ⟨rfl, hg⟩
        have G7 := Lib.hid (G6.out.trans hg)
        clear hg
        go_wp2
        go_ret
        exact ⟨rfl, G7.out⟩
end Go.Proofs.Ytlkihbehiojimaa
