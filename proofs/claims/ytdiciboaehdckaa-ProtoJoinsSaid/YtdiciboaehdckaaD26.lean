/-
  Layer 8: the bytes of what was read are those that were read.
-/
import Derived.Test.YtdiciboaehdckaaD11
import Derived.Test.YtdiciboaehdckaaD14
namespace Go.Proofs.Ytdiciboaehdckaa
open Go.RowKit Go.Tab

theorem fromL_append (a b : List Nat) : fromL (a ++ b) = fromL a + 256 ^ a.length * fromL b := by
  induction a with
  | nil => simp [fromL]
  | cons x a ih => simp only [List.cons_append, fromL, ih, List.length_cons, Nat.pow_succ]; grind
theorem fromL_digit (l : List Nat) (hx : ∀ x ∈ l, x < 256) {k : Nat} (hk : k < l.length) : fromL l / 256 ^ k % 256 = l[k] := by
  have h1 : fromL l = fromL (l.take k) + 256 ^ k * fromL (l.drop k) := by
    have := fromL_append (l.take k) (l.drop k)
    rwa [List.take_append_drop, List.length_take, Nat.min_eq_left (by omega)] at this
  have h2 : fromL (l.take k) < 256 ^ k := by
    have := fromL_lt (l.take k) (fun x h => hx x (List.mem_of_mem_take h))
    rwa [List.length_take, Nat.min_eq_left (by omega)] at this
  have hp : 0 < 256 ^ k := Nat.pow_pos (by decide)
  rw [h1, Nat.add_mul_div_left _ _ hp, Nat.div_eq_of_lt h2, Nat.zero_add, List.drop_eq_getElem_cons hk]
  have := hx l[k] (List.getElem_mem hk)
  simp only [fromL]
  omega
theorem lowL_fromL (l : List Nat) (hx : ∀ x ∈ l, x < 256) : ∀ k, k ≤ l.length → lowL (fromL l) k = l.take k
  | 0, _ => by simp [lowL]
  | k + 1, h => by
    rw [lowL, lowL_fromL l hx k (by omega), fromL_digit l hx (by omega), List.take_succ_eq_append_getElem (by omega)]
theorem low_take (l : List Nat) (hx : ∀ x ∈ l, x < 256) (j k : Nat) (h : j + k ≤ l.length) : lowL (fromL ((l.drop j).take k)) k = (l.drop j).take k := by
  have e := lowL_fromL ((l.drop j).take k) (fun x h => hx x (List.mem_of_mem_drop (List.mem_of_mem_take h))) k (by simp; omega)
  rw [e, List.take_take, Nat.min_self]

theorem enc_key (r1 : Nat) : enc (8 * ((r1 / 8 : Nat) : Int) + ((r1 % 8 : Nat) : Int)).toNat = enc r1 := by
  congr 1
  omega
theorem ok_mk {num kind n : Nat} {bs : List Nat} (h1 : num < 4611686018427387904) (h2 : kind < 8) (h3 : n < 18446744073709551616) (h4 : ∀ x ∈ bs, x < 256) (h5 : bs.length ≤ 1000) : (⟨(num : Int), (kind : Int), n, bs⟩ : Fld).Ok :=
  ⟨h3, h4, h5, by show (-9223372036854775808 : Int) ≤ (num : Int); omega, by show (num : Int) ≤ 9223372036854775807; omega, by show (-9223372036854775808 : Int) ≤ (kind : Int); omega, by show (kind : Int) ≤ 9223372036854775807; omega⟩
/-- What was read is a field that may be told, of these bytes. -/
theorem rdF_back (l : List Nat) (hx : ∀ x ∈ l, x < 256) (hl : l.length ≤ 1000) (h : (rdF l).2.2 = 0) : wrB (rdF l).1 = l.take (rdF l).2.1 ∧ okF (rdF l).1 = 0 ∧ (rdF l).1.Ok := by
  have hE := rd_enc l hx
  have hlt := rd_lt l hx
  have hs := rd_size l
  have hx2 : ∀ x ∈ l.drop (rd l).2.1, x < 256 := fun x h => hx x (List.mem_of_mem_drop h)
  have hs2 := rd_size (l.drop (rd l).2.1)
  have hE2 := rd_enc (l.drop (rd l).2.1) hx2
  have hlt2 := rd_lt (l.drop (rd l).2.1) hx2
  have hbs : ∀ j k, ∀ x ∈ (l.drop j).take k, x < 256 := fun j k x h => hx x (List.mem_of_mem_drop (List.mem_of_mem_take h))
  have hF : ∀ j k, fromL ((l.drop j).take k) < 256 ^ k := fun j k => by
    refine Nat.lt_of_lt_of_le (fromL_lt _ (hbs j k)) (Nat.pow_le_pow_right (by decide) ?_)
    rw [List.length_take]; omega
  have hlow := low_take l hx
  have hlk : lk l = lk l := rfl
  conv at hlk => rhs; unfold lk
  generalize hr : rd l = r at hE hlt hs hx2 hs2 hE2 hlt2 hlk
  obtain ⟨r1, r2, r3⟩ := r
  simp only at hE hlt hs hx2 hs2 hE2 hlt2 hlk
  generalize hq : rd (l.drop r2) = q at hs2 hE2 hlt2 hlk
  obtain ⟨s1, s2, s3⟩ := q
  simp only at hs2 hE2 hlt2 hlk
  rw [List.length_drop] at hs2
  have bad : ∀ e, e ≠ 0 → lk l = bad6 e → False := fun e h0 he => by
    unfold rdF at h
    rw [he] at h
    rw [if_pos (by simpa [bad6] using h0)] at h
    exact absurd h (by simpa [bad6] using h0)
  have good : ∀ num kind n head size : Nat, lk l = (num, kind, n, head, size, 0) → rdF l = (⟨num, kind, if kind = 1 ∨ kind = 5 then fromL ((l.drop head).take size) else n, if kind = 2 then (l.drop head).take size else []⟩, head + size, 0) := fun num kind n head size he => by
    unfold rdF
    rw [he]
    simp
  by_cases h3 : r3 = 0
  · subst h3
    rw [if_neg (by simp)] at hlk
    by_cases hn : r1 / 8 < 1 ∨ 536870911 < r1 / 8
    · rw [if_pos hn] at hlk
      exact (bad _ (by decide) hlk).elim
    · rw [if_neg hn] at hlk
      have hnum : r1 / 8 < 4611686018427387904 := by omega
      have hkk : r1 % 8 < 8 := Nat.mod_lt _ (by decide)
      obtain ⟨a1, a2⟩ := hs rfl
      have e1 := hE rfl
      by_cases hk : kindB (((r1 % 8 : Nat)) : Int) = false
      · rw [if_pos hk] at hlk
        exact (bad _ (by decide) hlk).elim
      · rw [if_neg hk] at hlk
        by_cases k1 : r1 % 8 = 1
        · rw [if_pos k1] at hlk
          by_cases hf : l.length - r2 < 8
          · rw [if_pos hf] at hlk
            exact (bad _ (by decide) hlk).elim
          · rw [if_neg hf] at hlk
            have hR := good _ _ _ _ _ hlk
            have hfl := hF r2 8
            have hlw := hlow r2 8 (by omega)
            rw [k1] at hR hkk
            rw [hR]
            simp only
            have hke := enc_key r1
            rw [k1] at hke
            refine ⟨?_, ?_, ok_mk hnum hkk ?_ ?_ ?_⟩
            · unfold wrB
              simp only [show ¬ ((1 : Nat) : Int) = 0 by decide, show ¬ (1 : Int) = 0 by decide, if_false, show ((1 : Nat) : Int) = 1 by rfl, if_true]
              rw [show ((8 : Int) * ((r1 / 8 : Nat) : Int) + 1).toNat = (8 * ((r1 / 8 : Nat) : Int) + ((1 : Nat) : Int)).toNat by rfl, hke, e1]
              simp only [true_or, if_true]
              rw [hlw, List.take_add]
            · unfold okF chkI
              simp; omega
            · simpa using hfl
            · simp
            · simp
        · rw [if_neg k1] at hlk
          by_cases k5 : r1 % 8 = 5
          · rw [if_pos k5] at hlk
            by_cases hf : l.length - r2 < 4
            · rw [if_pos hf] at hlk
              exact (bad _ (by decide) hlk).elim
            · rw [if_neg hf] at hlk
              have hR := good _ _ _ _ _ hlk
              have hfl := hF r2 4
              have hlw := hlow r2 4 (by omega)
              rw [k5] at hR hkk
              rw [hR]
              simp only
              have hke := enc_key r1
              rw [k5] at hke
              refine ⟨?_, ?_, ok_mk hnum hkk ?_ ?_ ?_⟩
              · unfold wrB
                simp only [show ((5 : Nat) : Int) = 5 by rfl, show ¬ (5 : Int) = 0 by decide, show ¬ (5 : Int) = 1 by decide, if_false, if_true]
                rw [show ((8 : Int) * ((r1 / 8 : Nat) : Int) + 5).toNat = (8 * ((r1 / 8 : Nat) : Int) + ((5 : Nat) : Int)).toNat by rfl, hke, e1]
                simp only [or_true, if_true]
                rw [hlw, List.take_add]
              · unfold okF chkI
                have : (256 : Nat) ^ 4 = 4294967296 := rfl
                simp; omega
              · refine Nat.lt_of_lt_of_le (by simpa using hfl) (by decide)
              · simp
              · simp
          · rw [if_neg k5] at hlk
            by_cases h4 : s3 = 0
            · subst h4
              rw [if_neg (by simp)] at hlk
              obtain ⟨b1, b2⟩ := hs2 rfl
              have e2 := hE2 rfl
              by_cases k0 : r1 % 8 = 0
              · rw [if_pos k0] at hlk
                have hR := good _ _ _ _ _ hlk
                have hke := enc_key r1
                rw [k0] at hR hke hkk
                rw [hR]
                simp only
                refine ⟨?_, ?_, ok_mk hnum hkk ?_ ?_ ?_⟩
                · unfold wrB
                  simp only [show ((0 : Nat) : Int) = 0 by rfl, if_true]
                  rw [show ((8 : Int) * ((r1 / 8 : Nat) : Int) + 0).toNat = (8 * ((r1 / 8 : Nat) : Int) + ((0 : Nat) : Int)).toNat by rfl, hke, e1]
                  simp only [show ¬ (0 = 1 ∨ 0 = 5) by decide, if_false]
                  rw [e2, Nat.add_zero, List.take_add]
                · unfold okF chkI
                  simp; omega
                · simpa using hlt2
                · simp
                · simp
              · rw [if_neg k0] at hlk
                have k2 : r1 % 8 = 2 := by
                  have : kindB (((r1 % 8 : Nat)) : Int) = true := by simpa using hk
                  simp only [kindB, decide_eq_true_eq] at this
                  omega
                by_cases hf : l.length - (r2 + s2) < s1
                · rw [if_pos hf] at hlk
                  exact (bad _ (by decide) hlk).elim
                · rw [if_neg hf] at hlk
                  have hR := good _ _ _ _ _ hlk
                  have hke := enc_key r1
                  have hbl : ((l.drop (r2 + s2)).take s1).length = s1 := by rw [List.length_take, List.length_drop]; omega
                  rw [k2] at hR hke hkk
                  rw [hR]
                  simp only
                  refine ⟨?_, ?_, ok_mk hnum hkk ?_ ?_ ?_⟩
                  · unfold wrB
                    simp only [show ¬ ((2 : Nat) : Int) = 0 by decide, show ¬ ((2 : Nat) : Int) = 1 by decide, show ¬ ((2 : Nat) : Int) = 5 by decide, if_false, if_true]
                    rw [show ((8 : Int) * ((r1 / 8 : Nat) : Int) + ((2 : Nat) : Int)).toNat = (8 * ((r1 / 8 : Nat) : Int) + ((2 : Nat) : Int)).toNat by rfl, hke, e1, hbl, e2]
                    rw [List.take_add, List.take_add, List.append_assoc]
                  · unfold okF chkI
                    simp; omega
                  · simp
                  · simpa using hbs (r2 + s2) s1
                  · simp only [if_true]; rw [hbl]; omega
            · rw [if_pos h4] at hlk
              exact (bad _ h4 hlk).elim
  · rw [if_pos h3] at hlk
    exact (bad _ h3 hlk).elim

/-- All that was read, told again. -/
theorem allFrom_back (l : List Nat) (hx : ∀ x ∈ l, x < 256) (hl : l.length ≤ 1000) : ∀ (f p : Nat) (acc : List Fld), l.length - p ≤ f → p ≤ l.length → acc.flatMap wrB = l.take p → acc.length ≤ p → (∀ g ∈ acc, okF g = 0 ∧ g.Ok) → (allFrom l f p acc).2.2 = 0 →
    (allFrom l f p acc).1.flatMap wrB = l ∧ (allFrom l f p acc).1.length ≤ l.length ∧ ∀ g ∈ (allFrom l f p acc).1, okF g = 0 ∧ g.Ok
  | 0, p, acc, hf, hp, ha, hc, hk, _ => by
    refine ⟨?_, by show acc.length ≤ _; omega, hk⟩
    show acc.flatMap wrB = l
    rw [ha, List.take_of_length_le (by omega)]
  | f + 1, p, acc, hf, hp, ha, hc, hk, h => by
    by_cases hlt : l.length ≤ p
    · rw [allFrom_done hlt]
      refine ⟨?_, by show acc.length ≤ _; omega, hk⟩
      show acc.flatMap wrB = l
      rw [ha, List.take_of_length_le hlt]
    · by_cases he : (rdF (l.drop p)).2.2 = 0
      · have hu : allFrom l (f + 1) p acc = allFrom l f (p + (rdF (l.drop p)).2.1) (acc ++ [(rdF (l.drop p)).1]) := by rw [allFrom, if_neg hlt, if_pos he]
        have hxd : ∀ x ∈ l.drop p, x < 256 := fun x hm => hx x (List.mem_of_mem_drop hm)
        rw [hu] at h ⊢
        have hs := rdF_size _ hxd he
        have hB := rdF_back _ hxd (by rw [List.length_drop]; omega) he
        rw [List.length_drop] at hs
        refine allFrom_back l hx hl f _ _ (by omega) (by omega) ?_ (by rw [List.length_append, List.length_singleton]; omega) ?_ h
        · rw [List.flatMap_append, ha, List.flatMap_cons, List.flatMap_nil, List.append_nil, hB.1, List.take_add]
        · intro g hg
          rcases List.mem_append.1 hg with hg | hg
          · exact hk g hg
          · rw [List.mem_singleton] at hg
            subst hg
            exact hB.2
      · rw [allFrom_bad (by omega) hf he] at h
        exact absurd h he
theorem all_back (l : List Nat) (hx : ∀ x ∈ l, x < 256) (hl : l.length ≤ 1000) (h : (allF l).2.2 = 0) : wrF (allF l).1 = (l, 0) ∧ (allF l).1.length ≤ l.length ∧ ∀ g ∈ (allF l).1, okF g = 0 ∧ g.Ok := by
  obtain ⟨h1, h2, h3⟩ := allFrom_back l hx hl l.length 0 [] (by omega) (Nat.zero_le _) rfl (Nat.le_refl _) (fun g hg => by cases hg) h
  refine ⟨?_, h2, h3⟩
  show wrF (allFrom l l.length 0 []).1 = _
  rw [wrF_ok (fun i g _ hi => (h3 g (List.mem_of_getElem? hi)).1)]
  exact Prod.ext h1 rfl
end Go.Proofs.Ytdiciboaehdckaa
