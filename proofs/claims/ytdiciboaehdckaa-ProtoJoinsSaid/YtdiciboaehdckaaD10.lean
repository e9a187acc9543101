/-
  Layer 8: a field of any bytes, as the document reads it.
-/
import Derived.Test.YtdiciboaehdckaaD9
namespace Go.Proofs.Ytdiciboaehdckaa
open Go.RowKit Go.Tab

def rdQ (l : List Nat) (q : Six) : Fld × Nat × Nat :=
  if ¬ q.2.2.2.2.2 = 0 then (⟨0, 0, 0, []⟩, 0, q.2.2.2.2.2) else
  (⟨q.1, q.2.1, if q.2.1 = 1 ∨ q.2.1 = 5 then fromL ((l.drop q.2.2.2.1).take q.2.2.2.2.1) else q.2.2.1, if q.2.1 = 2 then (l.drop q.2.2.2.1).take q.2.2.2.2.1 else []⟩, q.2.2.2.1 + q.2.2.2.2.1, 0)
theorem rdF_eq (l : List Nat) : rdF l = rdQ l (lk l) := rfl
def rfV (f : Fld) : Value := .agg #[.int .i64 f.num, .int .i64 f.kind, .int .u64 (f.n : Int), .string (strN f.bs)]
def rrV (q : Fld × Nat × Nat) : Value := .tuple #[.agg #[.int .i64 q.1.num, .int .i64 q.1.kind, .int .u64 (q.1.n : Int), .string (strN q.1.bs)], .int .i64 (q.2.1 : Int), .int .i64 (q.2.2 : Int)]
theorem rrV_bad (l : List Nat) (e : Nat) (he : ¬ e = 0) : rrV (rdQ l (bad6 e)) = rbadv e := by
  unfold rdQ bad6
  simp only
  rw [if_pos he]
  rfl
theorem beq_true {a b : Int} (h : a = b) : (a == b) = true := by simpa using h
theorem beq_false {a b : Int} (h : ¬ a = b) : (a == b) = false := by simpa using h

set_option maxHeartbeats 2000000 in
theorem rread_field (v : Value) (l : List Nat) (w : World) (hp : NumsAt .u8 w v l) (hx : ∀ x ∈ l, x < 256) : Calls Try.prog 17 #[v] w (Ret (rrV (rdF l)) w) := by
  rw [rdF_eq]
  by_cases he : (rd l).2.2 = 0
  · have HR := rread_any v l _ (hp.grows (Grows.alloc w fzr)) hx
    have hs := rd_size l he
    have hlt := rd_lt l hx
    obtain ⟨hl9, ⟨⟨_, _, rfl, _⟩, rfl⟩ | ⟨ba, oa, c, rfl, hb, hnc, hc⟩⟩ := id hp
    · simp at hs; omega
    · obtain ⟨r1, hr1⟩ : ∃ r1, r1 = (rd l).1 := ⟨_, rfl⟩
      obtain ⟨r2, hr2⟩ : ∃ r2, r2 = (rd l).2.1 := ⟨_, rfl⟩
      have hr : rd l = (r1, r2, 0) := Prod.ext hr1.symm (Prod.ext hr2.symm he)
      rw [hr] at HR hs hlt
      simp only at hs hlt
      have HRH := Lib.hid HR
      have hn9 := hl9
      unfold lk
      rw [hr]
      simp only
      rw [if_neg (by simp)]
      by_cases hnum : r1 / 8 < 1 ∨ 536870911 < r1 / 8
      · rw [if_pos hnum, rrV_bad _ _ (by decide)]
        rcases hnum with h | h
        · exact rread_num1 ba oa l.length c r1 r2 0 w HRH hlt rfl (by omega)
        · exact rread_num2 ba oa l.length c r1 r2 0 w HRH hlt rfl (by omega) (by omega)
      · rw [if_neg hnum]
        have hn1 : ¬ (r1 : Int) / 8 < 1 := by omega
        have hn2 : ¬ 536870911 < (r1 : Int) / 8 := by omega
        rw [mod8c]
        by_cases hkb : kindB ((r1 : Int) % 8) = false
        · rw [if_pos hkb, rrV_bad _ _ (by decide)]
          have hkk : ¬ ((r1 : Int) % 8 = 0 ∨ (r1 : Int) % 8 = 1 ∨ (r1 : Int) % 8 = 2 ∨ (r1 : Int) % 8 = 5) := by simpa [kindB] using hkb
          by_cases e3 : (r1 : Int) % 8 = 3
          · exact rread_kind3 ba oa l.length c r1 r2 0 w HRH hlt rfl hn1 hn2 (by simpa using e3)
          · by_cases e4 : (r1 : Int) % 8 = 4
            · exact rread_kind4 ba oa l.length c r1 r2 0 w HRH hlt rfl hn1 hn2 (by simpa using e3) (by simpa using e4)
            · exact rread_kind6 ba oa l.length c r1 r2 0 w HRH hlt rfl hn1 hn2 (by simpa using e3) (by simpa using e4) (by omega)
        · rw [if_neg hkb]
          have hkk : (r1 : Int) % 8 = 0 ∨ (r1 : Int) % 8 = 1 ∨ (r1 : Int) % 8 = 2 ∨ (r1 : Int) % 8 = 5 := by
            have h := hkb
            rw [Bool.not_eq_false] at h
            simpa [kindB] using h
          have b3 : ((r1 : Int) % 8 == 3) = false := by
            have : ¬ (r1 : Int) % 8 = 3 := by omega
            simpa using this
          have b4 : ((r1 : Int) % 8 == 4) = false := by
            have : ¬ (r1 : Int) % 8 = 4 := by omega
            simpa using this
          have h5 : ¬ 5 < (r1 : Int) % 8 := by omega
          by_cases k1 : r1 % 8 = 1
          · rw [if_pos k1]
            have i1 : (r1 : Int) % 8 = 1 := by omega
            by_cases hsz : l.length - r2 < 8
            · rw [if_pos hsz, rrV_bad _ _ (by decide)]
              exact rread_short1 ba oa l.length c r1 r2 0 w HRH hlt rfl hn1 hn2 b3 b4 h5 (beq_false (by omega : ¬ (r1 : Int) % 8 = 5)) (beq_false (by omega : ¬ (r1 : Int) % 8 = 0)) (beq_false (by omega : ¬ (r1 : Int) % 8 = 2)) hs.2 hn9 (by omega)
            · rw [if_neg hsz]
              have hsl : ((l.drop r2).take 8).length = 8 := by rw [List.length_take, List.length_drop]; omega
              have := rread_word1 ba oa l.length c r1 r2 0 w HRH ((l.drop r2).take 8) hlt rfl hn1 hn2 b3 b4 h5 (beq_false (by omega : ¬ (r1 : Int) % 8 = 5)) (beq_false (by omega : ¬ (r1 : Int) % 8 = 0)) (beq_false (by omega : ¬ (r1 : Int) % 8 = 2)) (by omega) hnc hn9 hsl (fun x h => hx x (List.mem_of_mem_drop (List.mem_of_mem_take h))) hb (fun j hj => by
                rw [hc (r2 + j) (by omega)]
                simp [List.getD_eq_getElem?_getD, List.getElem?_take, hj, List.getElem?_drop])
              unfold rdQ rrV
              simp only
              rw [if_neg (by simp), if_pos (by omega), if_neg (by omega)]
              simp only [div8c, mod8c, Int.natCast_add]
              exact this
          · rw [if_neg k1]
            have j1 : ¬ (r1 : Int) % 8 = 1 := by omega
            have b1 : ((r1 : Int) % 8 == 1) = false := by simpa using j1
            by_cases k5 : r1 % 8 = 5
            · rw [if_pos k5]
              have i5 : (r1 : Int) % 8 = 5 := by omega
              by_cases hsz : l.length - r2 < 4
              · rw [if_pos hsz, rrV_bad _ _ (by decide)]
                exact rread_short5 ba oa l.length c r1 r2 0 w HRH hlt rfl hn1 hn2 b3 b4 h5 (beq_true (by omega : (r1 : Int) % 8 = 5)) (beq_false (by omega : ¬ (r1 : Int) % 8 = 0)) (beq_false (by omega : ¬ (r1 : Int) % 8 = 2)) hs.2 hn9 (by omega)
              · rw [if_neg hsz]
                have hsl : ((l.drop r2).take 4).length = 4 := by rw [List.length_take, List.length_drop]; omega
                have := rread_word5 ba oa l.length c r1 r2 0 w HRH ((l.drop r2).take 4) hlt rfl hn1 hn2 b3 b4 h5 (beq_true (by omega : (r1 : Int) % 8 = 5)) (beq_false (by omega : ¬ (r1 : Int) % 8 = 0)) (beq_false (by omega : ¬ (r1 : Int) % 8 = 2)) (by omega) hnc hn9 hsl (fun x h => hx x (List.mem_of_mem_drop (List.mem_of_mem_take h))) hb (fun j hj => by
                  rw [hc (r2 + j) (by omega)]
                  simp [List.getD_eq_getElem?_getD, List.getElem?_take, hj, List.getElem?_drop])
                unfold rdQ rrV
                simp only
                rw [if_neg (by simp), if_pos (by omega), if_neg (by omega)]
                simp only [div8c, mod8c, Int.natCast_add]
                exact this
            · rw [if_neg k5]
              have j5 : ¬ (r1 : Int) % 8 = 5 := by omega
              have b5 : ((r1 : Int) % 8 == 5) = false := by simpa using j5
              have hxd : ∀ x ∈ l.drop r2, x < 256 := fun x h => hx x (List.mem_of_mem_drop h)
              by_cases hc2 : r2 = c
              · have hd : l.drop r2 = [] := List.drop_eq_nil_of_le (by omega)
                have hrd : rd ([] : List Nat) = (0, 0, 4) := by decide
                rw [hd, hrd]
                simp only
                rw [if_pos (by decide), rrV_bad _ _ (by decide)]
                have HN0 : Hid (∀ w2, Grows w w2 → Calls Try.prog 32 #[.slice (some ⟨ba, oa, none⟩) 0 0] w2 (Ret (rdv (0, 0, 4)) w2)) := Lib.hid fun w2 _ => by
                  have := rread_any (.slice (some ⟨ba, oa, none⟩) 0 0) [] w2 ⟨by simp, .inl ⟨⟨_, _, rfl, fun h => by cases h⟩, rfl⟩⟩ (by simp)
                  rw [hrd] at this
                  exact this
                by_cases k0 : (r1 : Int) % 8 = 0
                · exact rread_mend0 ba oa l.length c r1 r2 0 w HRH hlt rfl hn1 hn2 b3 b4 h5 (beq_false (by omega)) (beq_true k0) 0 0 4 HN0 hc2 hs.2 hnc hn9 (by decide)
                · exact rread_mend2 ba oa l.length c r1 r2 0 w HRH hlt rfl hn1 hn2 b3 b4 h5 (beq_false (by omega)) (beq_false k0) (beq_true (by omega)) 0 0 4 HN0 hc2 hs.2 hnc hn9 (by decide)
              · have hlc : r2 < c := by omega
                have hnd := fun w2 (hg : Grows w w2) => rread_any _ _ w2 ((nums_drop hp rfl hs.2).grows hg) hxd
                have hsd := rd_size (l.drop r2)
                generalize rd (l.drop r2) = q at hnd hsd
                obtain ⟨q1, q2, q3⟩ := q
                simp only at hsd ⊢
                by_cases h3 : q3 = 0
                · subst h3
                  obtain ⟨-, hs2⟩ := hsd rfl
                  rw [List.length_drop] at hs2
                  have hq2 : r2 + q2 ≤ l.length := by omega
                  rw [if_neg (by simp)]
                  by_cases k0 : r1 % 8 = 0
                  · rw [if_pos k0]
                    have i0 : (r1 : Int) % 8 = 0 := by omega
                    have := rread_number ba oa l.length c r1 r2 0 w HRH hlt rfl hn1 hn2 b3 b4 h5 (beq_false (by omega)) (beq_true i0) q1 q2 0 (Lib.hid hnd) hlc hs.2 hnc hn9 rfl hq2
                    unfold rdQ rrV
                    simp only
                    rw [if_neg (by simp), if_neg (by omega), if_neg (by omega)]
                    simp only [div8c, mod8c, Int.natCast_add, Nat.add_zero]
                    exact this
                  · rw [if_neg k0]
                    have i0 : ¬ (r1 : Int) % 8 = 0 := by omega
                    by_cases hfit : l.length - (r2 + q2) < q1
                    · rw [if_pos hfit, rrV_bad _ _ (by decide)]
                      exact rread_end ba oa l.length c r1 r2 0 w HRH hlt rfl hn1 hn2 b3 b4 h5 (beq_false (by omega)) (beq_false i0) (beq_true (by omega)) q1 q2 0 (Lib.hid hnd) hlc hs.2 hnc hn9 rfl hq2 (by omega)
                    · rw [if_neg hfit]
                      unfold rdQ rrV
                      simp only
                      rw [if_neg (by simp), if_neg (by omega), if_pos (by omega)]
                      simp only [div8c, mod8c, Int.natCast_add]
                      by_cases hfar : r2 + q2 < c
                      · exact rread_bytes ba oa l.length c r1 r2 0 w HRH _ hlt rfl hn1 hn2 b3 b4 h5 (beq_false (by omega)) (beq_false i0) (beq_true (by omega)) q1 q2 0 (Lib.hid hnd) hlc hs.2 hnc hn9 rfl hq2 (by omega) hfar (Lib.hid fun w2 hg => by
                          have h := nums_drop hp rfl hq2
                          obtain ⟨hh9, hh⟩ := h
                          have hlen : ((l.drop (r2 + q2)).take q1).length = q1 := by rw [List.length_take, List.length_drop]; omega
                          refine NumsAt.grows ⟨by omega, .inr ⟨ba, oa + (r2 + q2), c - (r2 + q2), by rw [hlen], hb, by rw [hlen]; omega, fun i hi => ?_⟩⟩ hg
                          rw [hlen] at hi
                          rw [Nat.add_assoc, hc (r2 + q2 + i) (by omega)]
                          simp [List.getD_eq_getElem?_getD, List.getElem?_take, hi, List.getElem?_drop])
                      · have e1 : r2 + q2 = l.length := by omega
                        have e2 : c = l.length := by omega
                        have e3 : q1 = 0 := by omega
                        have := rread_none ba oa l.length c r1 r2 0 w HRH hlt rfl hn1 hn2 b3 b4 h5 (beq_false (by omega)) (beq_false i0) (beq_true (by omega)) q1 q2 0 (Lib.hid hnd) hlc hs.2 hnc hn9 rfl e1 e2.symm e3
                        subst e3
                        rw [List.take_zero]
                        have e4 : (l.length : Int) = (r2 : Int) + (q2 : Int) + ((0 : Nat) : Int) := by omega
                        rw [e4] at this
                        exact this
                · rw [if_pos h3, rrV_bad _ _ h3]
                  by_cases k0 : (r1 : Int) % 8 = 0
                  · exact rread_more0 ba oa l.length c r1 r2 0 w HRH hlt rfl hn1 hn2 b3 b4 h5 (beq_false (by omega)) (beq_true k0) q1 q2 q3 (Lib.hid hnd) hlc hs.2 hnc hn9 (by simpa using h3)
                  · exact rread_more2 ba oa l.length c r1 r2 0 w HRH hlt rfl hn1 hn2 b3 b4 h5 (beq_false (by omega)) (beq_false k0) (beq_true (by omega)) q1 q2 q3 (Lib.hid hnd) hlc hs.2 hnc hn9 (by simpa using h3)
  · rw [show lk l = bad6 (rd l).2.2 by unfold lk; rw [if_pos he], rrV_bad _ _ he]
    have HR := rread_any v l (w.alloc fzr) (hp.grows (Grows.alloc _ _)) hx
    generalize rd l = r at HR he ⊢
    obtain ⟨r1, r2, r3⟩ := r
    exact rread_bad v r1 r2 r3 w (Lib.hid HR) he
end Go.Proofs.Ytdiciboaehdckaa
