/-
  Layer 7: the number that bytes begin with: the document's reckoning.
-/
import Derived.Test.YtdiciboaehdckaaV5
namespace Go.Proofs.Ytdiciboaehdckaa
open Go.RowKit Go.Tab

theorem val_drop_succ (L : List Nat) (j : Nat) (h : j < L.length) : val (L.drop j) = L.getD j 0 % 128 + 128 * val (L.drop (j + 1)) := by
  rw [List.drop_eq_getElem_cons h, val]
  simp [h]
theorem val_drop_le (L : List Nat) (j : Nat) : val (L.drop j) ≤ val L := by
  induction j with
  | zero => simp
  | succ j ih =>
    by_cases h : j < L.length
    · have := val_drop_succ L j h; omega
    · rw [List.drop_of_length_le (by omega)]; simp [val]
theorem getD_take (l : List Nat) (m j : Nat) (h : j < m) : (l.take m).getD j 0 = l.getD j 0 := by
  rw [List.getD_eq_getElem?_getD, List.getD_eq_getElem?_getD, List.getElem?_take_of_lt h]

set_option maxRecDepth 100000 in
set_option maxHeartbeats 3200000 in
theorem rread_some (l : List Nat) (b off n cap : Nat) (w : World) (Hn : Hid (l.length = n)) (hn : n ≤ 17592186044416) (Hx : Hid (∀ x ∈ l, x < 256))
    (hc : ∀ i, i < n → w.cell? ⟨b, off + i, none⟩ = some (.int .u8 (l.getD i 0))) :
    Calls Try.prog 32 #[.slice (some ⟨b, off, none⟩) n cap] w (Ret (rdv (rd l)) w) := by
  go_enter Try.func32, Try.ntmps32
  go_wp2
  go_loop [5] (fun i => ∃ k : Nat, k ≤ lead l ∧ i = .int .i64 k) (fun i => n - (intOf i).toNat)
  case atStart => exact ⟨0, Nat.zero_le _, rfl⟩
  case round =>
    obtain ⟨k, hkl, rfl⟩ := hrel
    have hle := lead_le l
    rw [Hn.out] at hle
    by_cases hkn : k = n
    · have hlk : lead l = k := by omega
      have Hlk := Lib.hid hlk
      have bn : ((k : Int) == (n : Int)) = true := by rw [beq_iff_eq]; omega
      clear hc hkl hle hlk
      by_cases h10 : 10 ≤ k
      · have Hr := Lib.hid (rd_range (l := l) (by rw [Hlk.out]; exact h10))
        go_wp2
        go_ret3
        refine ⟨?_, Grows.refl _⟩
        rw [Hr.out]; rfl
      · have Hr := Lib.hid (rd_end (l := l) (by rw [Hlk.out]; exact h10) (by rw [Hlk.out, Hn.out, hkn]))
        go_wp2
        go_ret3
        refine ⟨?_, Grows.refl _⟩
        rw [Hr.out]; rfl
    · have hlt : k < n := by omega
      have bn : ((k : Int) == (n : Int)) = false := by rw [beq_eq_false_iff_ne]; omega
      have e1 := hc k hlt
      have hxk : l.getD k 0 < 256 := Hx.out _ (getD_mem l k (by rw [Hn.out]; exact hlt))
      have Hlead := Lib.hid (lead_at l)
      have Hbef := Lib.hid (lead_before l k)
      generalize hxe : l.getD k 0 = x at e1 hxk Hbef
      have Hxe := Lib.hid hxe
      have Hkl := Lib.hid hkl
      have Hle := Lib.hid hle
      have Hc := Lib.hid hc
      clear hxe hc hkl hle
      by_cases h128 : 128 ≤ x
      · have hkl2 : k + 1 ≤ lead l := by
          have h1 := Hkl.out
          by_cases hh : lead l = k
          · have := Hlead.out (by rw [hh, Hn.out]; exact hlt)
            rw [hh, Hxe.out] at this; omega
          · omega
        have Hkl2 := Lib.hid hkl2
        clear hkl2
        go_wp2
        exact ⟨⟨k + 1, Hkl2.out, by go_num⟩, by simp [intOf]; omega⟩
      · have hlk : lead l = k := by
          have h1 := Hkl.out
          by_cases hh : k < lead l
          · have := Hbef.out hh; omega
          · omega
        have gn : ¬ lead l = l.length := by rw [hlk, Hn.out]; omega
        by_cases h10 : 10 ≤ k
        · have Hr := Lib.hid (rd_range (l := l) (by rw [hlk]; exact h10))
          clear hlk gn
          go_wp2
          go_ret3
          refine ⟨?_, Grows.refl _⟩
          rw [Hr.out]; rfl
        · have g10 : ¬ 10 ≤ lead l := by omega
          by_cases h9 : k = 9 ∧ 1 < x
          · obtain ⟨rfl, hx1⟩ := h9
            have Hr := Lib.hid (rd_nine g10 gn ⟨hlk, by rw [Hxe.out]; exact hx1⟩)
            clear hlk g10 gn
            go_wp2
            go_ret3
            refine ⟨?_, Grows.refl _⟩
            rw [Hr.out]; rfl
          · have g9 : ¬ (lead l = 9 ∧ 1 < l.getD 9 0) := by
              rintro ⟨a, b⟩; rw [hlk] at a; subst a; rw [Hxe.out] at b; exact h9 ⟨rfl, b⟩
            have c9 : (k = 9 ∧ x ≤ 1) ∨ ((k : Int) == 9) = false := by
              by_cases hh : k = 9
              · left; exact ⟨hh, by omega⟩
              · right; rw [beq_eq_false_iff_ne]; omega
            by_cases h0 : 0 < k ∧ x = 0
            · obtain ⟨hk0, rfl⟩ := h0
              have Hr := Lib.hid (rd_zero g10 gn g9 ⟨by omega, by rw [hlk, Hxe.out]⟩)
              clear hlk g10 gn g9 h9
              rcases c9 with ⟨rfl, c1⟩ | c9
              all_goals
                go_wp2
                go_ret3
                refine ⟨?_, Grows.refl _⟩
                rw [Hr.out]; rfl
            · have gz : ¬ (0 < lead l ∧ l.getD (lead l) 0 = 0) := by
                rintro ⟨a, b⟩; rw [hlk, Hxe.out] at b; exact h0 ⟨by omega, b⟩
              have Hr := Lib.hid (rd_ok g10 gn g9 gz)
              rw [hlk] at Hr
              have Hv := Lib.hid (val_lt64 (l := l) (k := k) (x := x) (by omega) (fun h => by omega) (by rw [Hn.out]; exact hlt) Hxe.out (by omega))
              clear hlk g10 gn g9 gz
              have cc : (k = 9 ∧ x ≤ 1 ∧ ((x : Int) == 0) = false) ∨ (0 < k ∧ ((k : Int) == 9) = false ∧ ((x : Int) == 0) = false) ∨ k = 0 := by
                by_cases hh : 0 < k
                · have hx0 : ((x : Int) == 0) = false := by rw [beq_eq_false_iff_ne]; omega
                  rcases c9 with ⟨c9, c1⟩ | c9
                  · exact .inl ⟨c9, c1, hx0⟩
                  · exact .inr (.inl ⟨hh, c9, hx0⟩)
                · exact .inr (.inr (by omega))
              clear c9
              clear h9 h0
              have hlen : (l.take (k + 1)).length = k + 1 := by rw [List.length_take, Hn.out]; omega
              have Hlen := Lib.hid hlen
              have Hd := Lib.hid (val_drop_succ (l.take (k + 1)))
              have Hdl := Lib.hid (val_drop_le (l.take (k + 1)))
              have Hgt := Lib.hid (getD_take l (k + 1))
              generalize hL : l.take (k + 1) = L at Hlen Hd Hdl Hgt Hv Hr
              have HL := Lib.hid hL
              clear hlen hL
              rcases cc with ⟨rfl, c1, c2⟩ | ⟨c0, c9, c2⟩ | rfl
              all_goals
                try rw [Nat.add_zero] at e1
                go_wp2
                clear e1
                go_loop [6, 7] (fun nn i => ∃ (z : Int) (j : Nat), z = (j : Int) - 1 ∧ j ≤ L.length ∧ i = .int .i64 z ∧ nn = .int .u64 (val (L.drop j))) (fun _ i => (intOf i + 1).toNat)
                case atStart => exact ⟨_, L.length, by rw [Hlen.out]; omega, Nat.le_refl _, rfl, by rw [List.drop_length]; rfl⟩
                case round =>
                  obtain ⟨z, j, hz, hj, rfl, rfl⟩ := hrel
                  rw [Hlen.out] at hj
                  cases j with
                  | zero =>
                    obtain rfl : z = -1 := by omega
                    clear hz
                    go_wp2
                    go_ret3
                    refine ⟨?_, Grows.refl _⟩
                    rw [Hr.out]; rfl
                  | succ j =>
                    obtain rfl : z = (j : Int) := by omega
                    have e2 := Hc.out j (by omega)
                    have h1 := Hdl.out j
                    have h2 := Hd.out j (by rw [Hlen.out]; omega)
                    rw [Hgt.out j (by omega)] at h2
                    have h3 := Hv.out
                    have hy : l.getD j 0 < 256 := Hx.out _ (getD_mem l j (by rw [Hn.out]; omega))
                    generalize l.getD j 0 = y at e2 h2 hy
                    generalize hA : val (L.drop (j + 1)) = A at h2
                    have h4 : 128 * (A : Int) + (y : Int) % 128 ≤ 18446744073709551615 := by omega
                    have H2 := Lib.hid h2
                    clear hz h1 h2 h3 hA
                    go_wp2
                    refine ⟨⟨_, j, rfl, by rw [Hlen.out]; omega, rfl, by rw [H2.out] <;> (first | rfl | (congr 1; omega))⟩, by simp [intOf] <;> omega⟩
end Go.Proofs.Ytdiciboaehdckaa
