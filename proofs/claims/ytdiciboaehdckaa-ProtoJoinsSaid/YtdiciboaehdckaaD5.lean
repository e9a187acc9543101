/-
  Layer 8: a look at any bytes.
-/
import Derived.Test.YtdiciboaehdckaaD4
namespace Go.Proofs.Ytdiciboaehdckaa
open Go.RowKit Go.Tab Go.Fwd

/-- Number, kind, N, head, size, error. -/
abbrev Six := Nat × Nat × Nat × Nat × Nat × Nat
def bad6 (e : Nat) : Six := (0, 0, 0, 0, 0, e)
def lk (l : List Nat) : Six :=
  if ¬ (rd l).2.2 = 0 then bad6 (rd l).2.2 else
  if (rd l).1 / 8 < 1 ∨ 536870911 < (rd l).1 / 8 then bad6 5 else
  if kindB (((rd l).1 % 8 : Nat) : Int) = false then bad6 14 else
  if (rd l).1 % 8 = 1 then (if l.length - (rd l).2.1 < 8 then bad6 4 else ((rd l).1 / 8, (rd l).1 % 8, 0, (rd l).2.1, 8, 0)) else
  if (rd l).1 % 8 = 5 then (if l.length - (rd l).2.1 < 4 then bad6 4 else ((rd l).1 / 8, (rd l).1 % 8, 0, (rd l).2.1, 4, 0)) else
  if ¬ (rd (l.drop (rd l).2.1)).2.2 = 0 then bad6 (rd (l.drop (rd l).2.1)).2.2 else
  if (rd l).1 % 8 = 0 then ((rd l).1 / 8, (rd l).1 % 8, (rd (l.drop (rd l).2.1)).1, (rd l).2.1 + (rd (l.drop (rd l).2.1)).2.1, 0, 0) else
  if l.length - ((rd l).2.1 + (rd (l.drop (rd l).2.1)).2.1) < (rd (l.drop (rd l).2.1)).1 then bad6 4 else
  ((rd l).1 / 8, (rd l).1 % 8, 0, (rd l).2.1 + (rd (l.drop (rd l).2.1)).2.1, (rd (l.drop (rd l).2.1)).1, 0)
def lookV (q : Six) : Value := .tuple #[.agg #[.int .i64 (q.1 : Int), .int .i64 (q.2.1 : Int), .int .u64 (q.2.2.1 : Int), .slice none 0 0], .int .i64 (q.2.2.2.1 : Int), .int .i64 (q.2.2.2.2.1 : Int), .int .i64 (q.2.2.2.2.2 : Int)]
theorem lookV_bad (e : Nat) : lookV (bad6 e) = badv e := rfl
theorem nums_drop {w : World} {b off n cap j : Nat} {l : List Nat} (h : NumsAt .u8 w (.slice (some ⟨b, off, none⟩) n cap) l) (hn : n = l.length) (hj : j ≤ n) : NumsAt .u8 w (.slice (some ⟨b, off + j, none⟩) (n - j) (cap - j)) (l.drop j) := by
  subst hn
  obtain ⟨hl, ⟨⟨a, c, hv, hac⟩, h0⟩ | ⟨b', off', cap', hv, hb, hnc, hc⟩⟩ := h
  · subst h0
    have : j = 0 := by simpa using hj
    subst this
    exact ⟨by simp, .inl ⟨⟨some ⟨b, off + 0, none⟩, cap - 0, by simp, fun h => by cases h⟩, by simp⟩⟩
  · injection hv with h1 h2 h3
    injection h1 with h1
    injection h1 with h1 h4 _
    subst h1 h3 h4
    refine ⟨by rw [List.length_drop]; omega, .inr ⟨b, off + j, cap - j, by rw [List.length_drop], hb, by rw [List.length_drop]; omega, fun i hi => ?_⟩⟩
    rw [List.length_drop] at hi
    rw [Nat.add_assoc, hc (j + i) (by omega)]
    simp [List.getD_eq_getElem?_getD, List.getElem?_drop]
theorem mod8c (a : Nat) : ((a % 8 : Nat) : Int) = (a : Int) % 8 := by omega
theorem div8c (a : Nat) : ((a / 8 : Nat) : Int) = (a : Int) / 8 := by omega

set_option maxHeartbeats 1000000 in
theorem look_any (v : Value) (l : List Nat) (w : World) (hp : NumsAt .u8 w v l) (hx : ∀ x ∈ l, x < 256) : Calls Try.prog 30 #[v] w (Ret (lookV (lk l)) w) := by
  by_cases he : (rd l).2.2 = 0
  · have HR := read_any v l _ (hp.grows (((Grows.refl w).al fz).al fz)) hx
    have hs := rd_size l he
    have hlt := rd_lt l hx
    obtain ⟨hl9, ⟨⟨_, _, rfl, _⟩, rfl⟩ | ⟨ba, oa, c, rfl, hb, hnc, hc⟩⟩ := id hp
    · simp at hs; omega
    · obtain ⟨r1, hr1⟩ : ∃ r1, r1 = (rd l).1 := ⟨_, rfl⟩
      obtain ⟨r2, hr2⟩ : ∃ r2, r2 = (rd l).2.1 := ⟨_, rfl⟩
      have hr : rd l = (r1, r2, 0) := Prod.ext hr1.symm (Prod.ext hr2.symm he)
      rw [hr] at HR hs hlt
      simp only at hs hlt
      have HRH := Lib.hid HR
      have HK := Lib.hid (kind_any ((r1 : Int) % 8))
      have HW := Lib.hid (width_any ((r1 : Int) % 8))
      have hn9 := hl9
      rw [show lk l = _ from rfl]
      unfold lk
      rw [hr]
      simp only
      rw [if_neg (by simp)]
      by_cases hnum : r1 / 8 < 1 ∨ 536870911 < r1 / 8
      · rw [if_pos hnum, lookV_bad]
        rcases hnum with h | h
        · exact look_num1 l ba oa l.length c r1 r2 w HRH hlt (by omega)
        · exact look_num2 l ba oa l.length c r1 r2 w HRH hlt (by omega) (by omega)
      · rw [if_neg hnum]
        have hn1 : ¬ (r1 : Int) / 8 < 1 := by omega
        have hn2 : ¬ 536870911 < (r1 : Int) / 8 := by omega
        rw [mod8c]
        cases hk : kindB ((r1 : Int) % 8) with
        | false =>
          rw [hk] at HK
          rw [if_pos rfl, lookV_bad]
          exact look_kind l ba oa l.length c r1 r2 w HRH hlt hn1 hn2 HK
        | true =>
          rw [hk] at HK
          rw [if_neg (by simp)]
          by_cases k1 : r1 % 8 = 1
          · rw [if_pos k1]
            have i1 : (r1 : Int) % 8 = 1 := by omega
            rw [if_pos i1] at HW
            by_cases hsz : l.length - r2 < 8
            · rw [if_pos hsz, lookV_bad]
              exact look_short1 l ba oa l.length c r1 r2 w HRH hlt hn1 hn2 HK HW (by simpa using i1) (by rw [i1]; decide) hs.2 hn9 (by omega)
            · rw [if_neg hsz]
              have := look_wide1 l ba oa l.length c r1 r2 w HRH hlt hn1 hn2 HK HW (by simpa using i1) (by rw [i1]; decide) hs.2 hn9 (by omega)
              unfold lookV
              simp only [div8c, mod8c]
              exact this
          · rw [if_neg k1]
            have j1 : ¬ (r1 : Int) % 8 = 1 := by omega
            have b1 : ((r1 : Int) % 8 == 1) = false := by simpa using j1
            by_cases k5 : r1 % 8 = 5
            · rw [if_pos k5]
              have i5 : (r1 : Int) % 8 = 5 := by omega
              rw [if_neg j1] at HW
              by_cases hsz : l.length - r2 < 4
              · rw [if_pos hsz, lookV_bad]
                exact look_short5 l ba oa l.length c r1 r2 w HRH hlt hn1 hn2 HK HW b1 (by simpa using i5) hs.2 hn9 (by omega)
              · rw [if_neg hsz]
                have := look_wide5 l ba oa l.length c r1 r2 w HRH hlt hn1 hn2 HK HW b1 (by simpa using i5) hs.2 hn9 (by omega)
                unfold lookV
                simp only [div8c, mod8c]
                exact this
            · rw [if_neg k5]
              have j5 : ¬ (r1 : Int) % 8 = 5 := by omega
              have b5 : ((r1 : Int) % 8 == 5) = false := by simpa using j5
              have hxd : ∀ x ∈ l.drop r2, x < 256 := fun x h => hx x (List.mem_of_mem_drop h)
              by_cases hc2 : r2 = c
              · have hd : l.drop r2 = [] := List.drop_eq_nil_of_le (by omega)
                have hrd : rd ([] : List Nat) = (0, 0, 4) := by decide
                rw [hd, hrd]
                simp only
                rw [if_pos (by decide), lookV_bad]
                exact look_more0 l ba oa l.length c r1 r2 w HRH hlt hn1 hn2 HK _ rfl b1 b5 hs.2 hnc hn9 0 0 4 (Lib.hid fun w2 _ => by
                  have := read_any (.slice (some ⟨ba, oa, none⟩) 0 0) [] w2 ⟨by simp, .inl ⟨⟨_, _, rfl, fun h => by cases h⟩, rfl⟩⟩ (by simp)
                  rw [hrd] at this
                  exact this) hc2 (by decide)
              · have hlc : r2 < c := by omega
                have hnd := fun w2 (hg : Grows w w2) => read_any _ _ w2 ((nums_drop hp rfl hs.2).grows hg) hxd
                have hsd := rd_size (l.drop r2)
                generalize rd (l.drop r2) = q at hnd hsd
                obtain ⟨q1, q2, q3⟩ := q
                simp only at hsd ⊢
                by_cases h3 : q3 = 0
                · subst h3
                  obtain ⟨-, hs2⟩ := hsd rfl
                  rw [List.length_drop] at hs2
                  have hq2 : r2 + q2 ≤ l.length := by omega
                  rw [if_neg (by simp)]
                  by_cases k0 : r1 % 8 = 0
                  · rw [if_pos k0]
                    have i0 : (r1 : Int) % 8 = 0 := by omega
                    have b0 : ((r1 : Int) % 8 == 0) = true := by simpa using i0
                    have := look_number l ba oa l.length c r1 r2 w HRH hlt hn1 hn2 HK b0 b1 b5 hs.2 hnc hn9 q1 q2 0 (Lib.hid hnd) hlc hq2
                    unfold lookV
                    simp only [div8c, mod8c, Int.natCast_add]
                    exact this
                  · rw [if_neg k0]
                    have b0 : ((r1 : Int) % 8 == 0) = false := by
                      have : ¬ (r1 : Int) % 8 = 0 := by omega
                      simpa using this
                    by_cases hfit : l.length - (r2 + q2) < q1
                    · rw [if_pos hfit, lookV_bad]
                      by_cases hq : l.length < q1
                      · exact look_long l ba oa l.length c r1 r2 w HRH hlt hn1 hn2 HK b0 b1 b5 hs.2 hnc hn9 q1 q2 0 (Lib.hid hnd) hlc hq2 (by omega)
                      · exact look_end l ba oa l.length c r1 r2 w HRH hlt hn1 hn2 HK b0 b1 b5 hs.2 hnc hn9 q1 q2 0 (Lib.hid hnd) hlc hq2 (by omega) (by omega)
                    · rw [if_neg hfit]
                      have := look_bytes l ba oa l.length c r1 r2 w HRH hlt hn1 hn2 HK b0 b1 b5 hs.2 hnc hn9 q1 q2 0 (Lib.hid hnd) hlc hq2 (by omega) (by omega)
                      unfold lookV
                      simp only [div8c, mod8c, Int.natCast_add]
                      exact this
                · rw [if_pos h3, lookV_bad]
                  exact look_more l ba oa l.length c r1 r2 w HRH hlt hn1 hn2 HK _ rfl b1 b5 hs.2 hnc hn9 q1 q2 q3 (Lib.hid hnd) hlc (by simpa using h3)
  · rw [show lk l = bad6 (rd l).2.2 by unfold lk; rw [if_pos he]]
    exact look_bad v l w hp hx he
end Go.Proofs.Ytdiciboaehdckaa
