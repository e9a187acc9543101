/-
  Layer 4: rows held against each other.
-/
import Derived.Test.YtigbojdnaeaojaaO3
namespace Go.Proofs.Ytigbojdnaeaojaa
open Go.RowKit Go.Tab

def cmpL : List Int → List Int → Int
  | [], [] => 0
  | [], _ :: _ => -1
  | _ :: _, [] => 1
  | x :: a, y :: b => if x < y then -1 else if y < x then 1 else cmpL a b

theorem cmpL_end_left {a b : List Int} (h : a = []) : cmpL a b = sgn a.length b.length := by
  subst h
  cases b with
  | nil => rfl
  | cons y b => simp [cmpL, sgn] <;> omega
theorem cmpL_end_right {a b : List Int} (h : b = []) : cmpL a b = sgn a.length b.length := by
  subst h
  cases a with
  | nil => rfl
  | cons y b => simp [cmpL, sgn] <;> omega
theorem cmpL_step {a b : List Int} {i : Nat} (ha : i < a.length) (hb : i < b.length) :
    cmpL (a.drop i) (b.drop i) = if a.getD i 0 < b.getD i 0 then -1 else if b.getD i 0 < a.getD i 0 then 1 else cmpL (a.drop (i + 1)) (b.drop (i + 1)) := by
  rw [List.drop_eq_getElem_cons ha, List.drop_eq_getElem_cons hb, cmpL]
  simp [List.getD_eq_getElem?_getD, ha, hb]
theorem sgn_shift (a b i : Nat) (h : i ≤ a) (h2 : i ≤ b) : sgn ((a - i : Nat) : Int) ((b - i : Nat) : Int) = sgn a b := by
  unfold sgn
  split <;> split <;> (try split) <;> (try split) <;> omega
theorem cmpL_zero {a b : List Int} : cmpL a b = 0 ↔ a = b := by
  induction a generalizing b with
  | nil => cases b <;> simp [cmpL]
  | cons x a ih =>
    cases b with
    | nil => simp [cmpL]
    | cons y b =>
      rw [cmpL]
      by_cases h1 : x < y
      · rw [if_pos h1]; simp; omega
      · by_cases h2 : y < x
        · rw [if_neg h1, if_pos h2]; simp; omega
        · rw [if_neg h1, if_neg h2, ih]; simp; omega

set_option maxRecDepth 100000 in
set_option maxHeartbeats 1000000 in
theorem compare_any (va vb : Value) (a b : List Int) (w : World) (ha : IntsAt w va a) (hb : IntsAt w vb b) : Calls Try.prog 7 #[va, vb] w (Ret (iv (cmpL a b)) w) := by
  obtain ⟨aa, ca, rfl, hca, hza⟩ := ha.shape
  obtain ⟨ab, cb, rfl, hcb, hzb⟩ := hb.shape
  have AA := Lib.hid (fun w' (hg : Grows w w') => ha.grows hg)
  have AB := Lib.hid (fun w' (hg : Grows w w') => hb.grows hg)
  have hla := ha.1
  have hlb := hb.1
  clear ha hb
  generalize hlea : a.length = la at hla hca AA ⊢
  generalize hleb : b.length = lb at hlb hcb AB ⊢
  have Hla := Lib.hid hlea
  have Hlb := Lib.hid hleb
  clear hlea hleb
  obtain ⟨lo, hlo⟩ : ∃ lo, lo = min la lb := ⟨_, rfl⟩
  have hmin : (if lb < la then (lb : Int) else la) = (lo : Int) := by omega
  have Hlo := Lib.hid hlo
  clear hlo
  go_enter Try.func7, Try.ntmps7
  go_wp2
  go_loopw [11] (fun i wr => ∃ k : Nat, i = iv k ∧ k ≤ lo ∧ cmpL (a.drop k) (b.drop k) = cmpL a b ∧ Grows w wr) (fun i _ => lo - (intOf i).toNat)
  case atStart => exact ⟨0, rfl, Nat.zero_le _, rfl, Grows.refl _⟩
  case round =>
    obtain ⟨k, rfl, hk, hM, hg⟩ := hrel
    by_cases hlt : k < lo
    · have hka : k < la := by have := Hlo.out; omega
      have hkb : k < lb := by have := Hlo.out; omega
      obtain ⟨ba, oa, rfl, hba, _⟩ := (AA.out _ (Grows.refl w)).at_ (i := k) (by rw [Hla.out]; exact hka)
      obtain ⟨bb, ob, rfl, hbb, _⟩ := (AB.out _ (Grows.refl w)).at_ (i := k) (by rw [Hlb.out]; exact hkb)
      have CA := Lib.hid (fun w' (hg : Grows w w') => (AA.out w' hg).at_cell (i := k) (by rw [Hla.out]; exact hka))
      have CB := Lib.hid (fun w' (hg : Grows w w') => (AB.out w' hg).at_cell (i := k) (by rw [Hlb.out]; exact hkb))
      rw [cmpL_step (by rw [Hla.out]; exact hka) (by rw [Hlb.out]; exact hkb)] at hM
      have HM := Lib.hid hM
      clear hM
      generalize a.getD k 0 = x at CA HM
      generalize b.getD k 0 = y at CB HM
      have G := Lib.hid hg
      clear hg
      have c1 := CA.out _ G.out
      have c2 := CB.out _ G.out
      by_cases hxy : x = y
      · subst hxy
        have HM : Hid (cmpL (a.drop (k + 1)) (b.drop (k + 1)) = cmpL a b) := Lib.hid (by have := HM.out; rwa [if_neg (by omega), if_neg (by omega)] at this)
        go_wp2_with fail
        go_quiet (fail)
        rename_i nq
        go_wp2
        refine ⟨⟨k + 1, by simp, by omega, HM.out, G.out.trans ⟨rfl, rfl, rfl, Nat.le_refl _, fun _ _ => rfl⟩⟩, by simp only [intOf]; omega⟩
      · have HM : Hid (sgn x y = cmpL a b) := Lib.hid (by
          have := HM.out
          unfold sgn
          by_cases h1 : x < y
          · rw [if_pos h1] at this ⊢; exact this
          · rw [if_neg h1, if_pos (by omega)] at this ⊢; exact this)
        have bxy : (x == y) = false := by rw [beq_eq_false_iff_ne]; exact hxy
        go_wp2_with fail
        go_quiet (fail)
        rename_i nq
        obtain ⟨we, hwe⟩ : ∃ we, we = wr.drewN nq := ⟨_, rfl⟩
        rw [← hwe]
        have gd : Grows wr we := by rw [hwe]; exact ⟨rfl, rfl, rfl, Nat.le_refl _, fun _ _ => rfl⟩
        have G := Lib.hid (G.out.trans gd)
        clear hwe gd c1 c2
        go_wp2_with fail
        refine wp_region_tab 9 (by kernel_rfl) (by kernel_rfl) ?_
        intro w0 hw0 hg1 hg1'
        simp only [List.take_succ_cons, List.take_zero, List.drop_succ_cons, List.drop_zero]
        refine tab_val (.slice (some ⟨ba, oa, none⟩) la ca) (fun r w1 hr hg hA => by obtain ⟨q0, -⟩ := hA; have q0e : r (.tmp 0) = .slice (some ⟨ba, oa, none⟩) la ca := q0; exact ⟨rfl, by simp [go_sem, q0e]⟩) ?_
        refine tab_val (.int .i64 (k : Int)) (fun r w1 hr hg hA => by obtain ⟨q0, -⟩ := hA; have q0e : r (.tmp 5) = .int .i64 (k : Int) := q0; exact ⟨rfl, by simp [go_sem, q0e]⟩) ?_
        refine tab_val (.pointer (some ⟨ba, oa + k, none⟩)) (fun r w1 hr hg hA => by obtain ⟨⟨_, q0⟩, ⟨_, q1⟩, -⟩ := hA; have q0e : r (.tmp 23) = .slice (some ⟨ba, oa, none⟩) la ca := q0; have q1e : r (.tmp 24) = .int .i64 (k : Int) := q1; exact ⟨rfl, by simp [go_sem, q0e, q1e, hka]⟩) ?_
        refine tab_val (iv x) (fun r w1 hr hg hA => by obtain ⟨⟨_, q0⟩, -⟩ := hA; have q0e : r (.tmp 25) = .pointer (some ⟨ba, oa + k, none⟩) := q0; have hc := And.intro (CA.out _ (G.out.trans (hg1.trans hg))) (CB.out _ (G.out.trans (hg1.trans hg))); exact ⟨rfl, by simp [go_sem, q0e, hc]⟩) ?_
        refine tab_val (.slice (some ⟨bb, ob, none⟩) lb cb) (fun r w1 hr hg hA => by obtain ⟨q0, -⟩ := hA; have q0e : r (.tmp 1) = .slice (some ⟨bb, ob, none⟩) lb cb := q0; exact ⟨rfl, by simp [go_sem, q0e]⟩) ?_
        refine tab_val (.int .i64 (k : Int)) (fun r w1 hr hg hA => by obtain ⟨q0, -⟩ := hA; have q0e : r (.tmp 5) = .int .i64 (k : Int) := q0; exact ⟨rfl, by simp [go_sem, q0e]⟩) ?_
        refine tab_val (.pointer (some ⟨bb, ob + k, none⟩)) (fun r w1 hr hg hA => by obtain ⟨⟨_, q0⟩, ⟨_, q1⟩, -⟩ := hA; have q0e : r (.tmp 27) = .slice (some ⟨bb, ob, none⟩) lb cb := q0; have q1e : r (.tmp 28) = .int .i64 (k : Int) := q1; exact ⟨rfl, by simp [go_sem, q0e, q1e, hkb]⟩) ?_
        refine tab_val (iv y) (fun r w1 hr hg hA => by obtain ⟨⟨_, q0⟩, -⟩ := hA; have q0e : r (.tmp 29) = .pointer (some ⟨bb, ob + k, none⟩) := q0; have hc := And.intro (CA.out _ (G.out.trans (hg1.trans hg))) (CB.out _ (G.out.trans (hg1.trans hg))); exact ⟨rfl, by simp [go_sem, q0e, hc]⟩) ?_
        refine tab_call (v := iv (sgn x y)) (fun w1 hg => sign_any x y w1) (fun r w1 hr hg hA => by obtain ⟨⟨_, q0⟩, ⟨_, q1⟩, -⟩ := hA; have q0e : r (.tmp 26) = iv x := q0; have q1e : r (.tmp 30) = iv y := q1; exact ⟨rfl, by simp [go_sem, hr.func, q0e, q1e]⟩) ?_
        refine tab_end ?_
        simp only [List.reverse_cons, List.reverse_nil, List.nil_append, List.cons_append, Out, BlockP, forall_eq, forall_const, Act.put, List.setIfInBounds_toArray, List.set_cons_succ, List.set_cons_zero]
        intro wA hgA
        have GA := Lib.hid (G.out.trans (hg1.trans hgA))
        clear hg1 hgA hg1' hw0
        go_wp2
        go_ret
        refine ⟨?_, GA.out⟩
        rw [← HM.out]
        rfl
    · have hke : k = lo := by omega
      subst hke
      have HM : Hid (sgn la lb = cmpL a b) := Lib.hid (by
        rw [← hM]
        by_cases h : la ≤ k
        · rw [cmpL_end_left (by rw [List.drop_eq_nil_iff, Hla.out]; exact h), List.length_drop, List.length_drop, Hla.out, Hlb.out, sgn_shift _ _ _ (by have := Hlo.out; omega) (by have := Hlo.out; omega)]
        · rw [cmpL_end_right (by rw [List.drop_eq_nil_iff, Hlb.out]; have := Hlo.out; omega), List.length_drop, List.length_drop, Hla.out, Hlb.out, sgn_shift _ _ _ (by have := Hlo.out; omega) (by have := Hlo.out; omega)])
      have G := Lib.hid hg
      clear hM hg
      go_wp2_with fail
      refine (sign_any la lb _).mono ?_
      rintro _ w1 ⟨rfl, hg⟩
      have G1 := Lib.hid (G.out.trans hg)
      clear hg
      rw [HM.out]
      go_wp2
      go_ret
      exact ⟨rfl, G1.out⟩

set_option maxRecDepth 100000 in
set_option maxHeartbeats 1000000 in
theorem rcompare_any (va vb : Value) (a b : List Int) (w : World) (ha : IntsAt w va a) (hb : IntsAt w vb b) : Calls Try.prog 8 #[va, vb] w (Ret (iv (cmpL a b)) w) := by
  obtain ⟨aa, ca, rfl, hca, hza⟩ := ha.shape
  obtain ⟨ab, cb, rfl, hcb, hzb⟩ := hb.shape
  have AA := Lib.hid (fun w' (hg : Grows w w') => ha.grows hg)
  have AB := Lib.hid (fun w' (hg : Grows w w') => hb.grows hg)
  have hla := ha.1
  have hlb := hb.1
  clear ha hb
  generalize hlea : a.length = la at hla hca AA ⊢
  generalize hleb : b.length = lb at hlb hcb AB ⊢
  have Hla := Lib.hid hlea
  have Hlb := Lib.hid hleb
  clear hlea hleb
  go_enter Try.func8, Try.ntmps8
  go_wp2
  go_loopw [5] (fun i wr => ∃ k : Nat, i = iv k ∧ k ≤ la ∧ k ≤ lb ∧ cmpL (a.drop k) (b.drop k) = cmpL a b ∧ Grows w wr) (fun i _ => la - (intOf i).toNat)
  case atStart => exact ⟨0, rfl, Nat.zero_le _, Nat.zero_le _, rfl, Grows.refl _⟩
  case round =>
    obtain ⟨k, rfl, hka', hkb', hM, hg⟩ := hrel
    by_cases hlt : k < la ∧ k < lb
    · obtain ⟨hka, hkb⟩ := hlt
      obtain ⟨ba, oa, rfl, hba, _⟩ := (AA.out _ (Grows.refl w)).at_ (i := k) (by rw [Hla.out]; exact hka)
      obtain ⟨bb, ob, rfl, hbb, _⟩ := (AB.out _ (Grows.refl w)).at_ (i := k) (by rw [Hlb.out]; exact hkb)
      have CA := Lib.hid (fun w' (hg : Grows w w') => (AA.out w' hg).at_cell (i := k) (by rw [Hla.out]; exact hka))
      have CB := Lib.hid (fun w' (hg : Grows w w') => (AB.out w' hg).at_cell (i := k) (by rw [Hlb.out]; exact hkb))
      rw [cmpL_step (by rw [Hla.out]; exact hka) (by rw [Hlb.out]; exact hkb)] at hM
      have HM := Lib.hid hM
      clear hM
      generalize a.getD k 0 = x at CA HM
      generalize b.getD k 0 = y at CB HM
      have G := Lib.hid hg
      clear hg
      have c1 := CA.out _ G.out
      have c2 := CB.out _ G.out
      clear CA CB
      by_cases h1 : x < y
      · have HM : Hid (-1 = cmpL a b) := Lib.hid (by have := HM.out; rwa [if_pos h1] at this)
        go_wp2_with fail
        go_quiet (fail)
        rename_i nq
        go_wp2
        go_ret
        refine ⟨?_, G.out.trans ⟨rfl, rfl, rfl, Nat.le_refl _, fun _ _ => rfl⟩⟩
        rw [← HM.out]
        rfl
      · by_cases h2 : y < x
        · have HM : Hid (1 = cmpL a b) := Lib.hid (by have := HM.out; rwa [if_neg h1, if_pos h2] at this)
          go_wp2_with fail
          go_quiet (fail)
          go_wp2_with fail
          go_quiet (fail)
          go_wp2
          go_ret
          refine ⟨?_, G.out.trans ⟨rfl, rfl, rfl, Nat.le_refl _, fun _ _ => rfl⟩⟩
          rw [← HM.out]
          rfl
        · have HM : Hid (cmpL (a.drop (k + 1)) (b.drop (k + 1)) = cmpL a b) := Lib.hid (by have := HM.out; rwa [if_neg h1, if_neg h2] at this)
          go_wp2_with fail
          go_quiet (fail)
          go_wp2_with fail
          go_quiet (fail)
          go_wp2
          refine ⟨⟨k + 1, by simp, by omega, by omega, HM.out, G.out.trans ⟨rfl, rfl, rfl, Nat.le_refl _, fun _ _ => rfl⟩⟩, by simp only [intOf]; omega⟩
    · have HM : Hid (sgn ((la : Int) - lb) 0 = cmpL a b) := Lib.hid (by
        rw [show sgn ((la : Int) - lb) 0 = sgn la lb by unfold sgn; split <;> split <;> (try split) <;> (try split) <;> omega, ← hM]
        by_cases h : la ≤ k
        · rw [cmpL_end_left (by rw [List.drop_eq_nil_iff, Hla.out]; exact h), List.length_drop, List.length_drop, Hla.out, Hlb.out, sgn_shift _ _ _ (by omega) (by omega)]
        · rw [cmpL_end_right (by rw [List.drop_eq_nil_iff, Hlb.out]; omega), List.length_drop, List.length_drop, Hla.out, Hlb.out, sgn_shift _ _ _ (by omega) (by omega)])
      have G := Lib.hid hg
      clear hM hg
      by_cases h : k < la
      · have h' : ¬ k < lb := by omega
        go_wp2_with fail
        refine (rsign_any ((la : Int) - lb) _).mono ?_
        rintro _ w1 ⟨rfl, hg⟩
        have G1 := Lib.hid (G.out.trans hg)
        clear hg
        rw [HM.out]
        go_wp2
        go_ret
        exact ⟨rfl, G1.out⟩
      · go_wp2_with fail
        refine (rsign_any ((la : Int) - lb) _).mono ?_
        rintro _ w1 ⟨rfl, hg⟩
        have G1 := Lib.hid (G.out.trans hg)
        clear hg
        rw [HM.out]
        go_wp2
        go_ret
        exact ⟨rfl, G1.out⟩

theorem Ints_any (va vb : Value) (a b : List Int) (w : World) (ha : IntsAt w va a) (hb : IntsAt w vb b) : Calls Try.prog 14 #[va, vb] w (Ret (.bool (decide (a = b))) w) := by
  have HC := Lib.hid (rcompare_any va vb a b w ha hb)
  have HZ := Lib.hid (cmpL_zero (a := a) (b := b))
  generalize cmpL a b = c at HC HZ
  clear ha hb
  go_enter Try.func14, Try.ntmps14
  go_wp2_with fail
  refine HC.out.mono ?_
  rintro _ w1 ⟨rfl, hg⟩
  have G1 := Lib.hid hg
  clear hg
  by_cases h : a = b
  · have hc := HZ.out.2 h
    subst hc
    go_wp2
    go_ret
    exact ⟨ret_bool (by simp [h]), G1.out⟩
  · have hc : ¬ c = 0 := fun e => h (HZ.out.1 e)
    have bc : (c == 0) = false := by rw [beq_eq_false_iff_ne]; exact hc
    go_wp2
    go_ret
    exact ⟨ret_bool (by simp [h, hc]), G1.out⟩
end Go.Proofs.Ytigbojdnaeaojaa
