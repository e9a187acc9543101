/-
  Layer 4: Uniq, in place; Points.
-/
import Derived.Test.YtigbojdnaeaojaaO17
import Derived.Test.YtigbojdnaeaojaaO6
import Derived.Test.YtigbojdnaeaojaaO7
namespace Go.Proofs.Ytigbojdnaeaojaa
open Go.RowKit Go.Tab

theorem own_prefix {w : World} {base : Nat} {e : TypeId} {g n cap d : Nat} {xs : List Value} (h : w.ownsRow base e 1 (.slice (some ⟨g, 0, none⟩) n cap) n xs) (hd : d ≤ n) : w.ownsRow base e 1 (.slice (some ⟨g, 0, none⟩) d cap) d (xs.take d) := by
  obtain ⟨h0, ⟨h1, _⟩ | ⟨g', cap', cur, hv, hb, hh, hc, hm, hs, ht⟩⟩ := h
  · cases h1
  · cases hv
    refine ⟨by rw [List.length_take]; omega, .inr ⟨g, cap, cur, rfl, hb, hh, by omega, hm, hs, ?_⟩⟩
    rw [← ht, List.take_take]
    congr 1
    omega

set_option maxRecDepth 100000 in
set_option maxHeartbeats 2000000 in
theorem uniq_any (v : Value) (l : List Int) (w : World) (hp : IntsAt w v l) (hl : l.length ≤ 100000) : Calls Try.prog 17 #[v] w (RetInts (uniqF (sortF ltI l)) w) := by
  have HS := Lib.hid (sorted_ints 35 #[] ltI (fun _ _ => rfl) l.length l v w (Nat.le_refl _) (by omega) hp (fun w' _ x y _ _ => lesser_any x y w'))
  have LS : (sortF ltI l).length ≤ 100000 := by rw [sortF_length]; exact hl
  generalize sortF ltI l = S at HS LS ⊢
  clear hp
  go_enter Try.func17, Try.ntmps17
  go_wp2_with fail
  refine HS.out.mono ?_
  rintro _ w1 ⟨va, rfl, hown, hg⟩
  have G1 := Lib.hid hg
  clear hg HS
  generalize hn : S.length = n at hown LS
  have HN := Lib.hid hn
  clear hn
  have hown' := hown
  obtain ⟨_, ⟨rfl, h0⟩ | ⟨g, cp, cur, rfl, hgb, _, hnc, _⟩⟩ := hown
  · have hS : S = [] := List.length_eq_zero_iff.1 (by rw [HN.out]; exact h0)
    subst hS
    clear hown' h0
    go_wp2
    refine wp_loop_rounds 1 ?_; rw [rounds_succ]
    go_wp2
    go_ret
    exact ⟨_, rfl, World.ownsRow_nil _ _ _ _, G1.out⟩
  · have Own1 : Hid (w1.ownsRow w.heap.size 3 1 (.slice (some ⟨g, 0, none⟩) n cp) n (([] ++ S.drop 0).map iv)) := Lib.hid (by simpa using hown')
    have HGB := Lib.hid hgb
    clear hown'
    go_wp2
    go_loopw [4, 13] (fun o i wr => ∃ (k : Nat) (D : List Int), i = iv k ∧ o = .slice (some ⟨g, 0, none⟩) D.length cp ∧ k ≤ n ∧ D = uniqF (S.take k) ∧ wr.ownsRow w.heap.size 3 1 (.slice (some ⟨g, 0, none⟩) n cp) n ((D ++ S.drop D.length).map iv) ∧ Grows w wr) (fun _ i _ => n - (intOf i).toNat)
    case atStart => exact ⟨0, [], rfl, rfl, Nat.zero_le _, rfl, Own1.out, G1.out⟩
    case round =>
      obtain ⟨k, D, rfl, rfl, hk, hD, hown, hg⟩ := hrel
      have Own := Lib.hid hown
      have G := Lib.hid hg
      have HD := Lib.hid hD
      have hdk : D.length ≤ k := by rw [hD]; have := uniqF_len (S.take k); rw [List.length_take] at this; omega
      clear hown hg hD G1 Own1
      have hDn : D ++ S.drop D.length = D ++ S.drop D.length := rfl
      clear hDn
      by_cases hlt : k < n
      · have hkS : k < S.length := by rw [HN.out]; exact hlt
        have cl := Own.out.cellAt k (by omega)
        have e1 : ((D ++ S.drop D.length).map iv)[k]? = some (iv (S.getD k 0)) := by
          rw [List.getElem?_map, List.getElem?_append_right hdk, List.getElem?_drop, show D.length + (k - D.length) = k by omega, getD_some S k hkS]; rfl
        rw [e1] at cl
        have HU : Hid (uniqF (S.take (k + 1)) = uniqStep D (S.getD k 0)) := Lib.hid (by
          rw [List.take_succ_eq_append_getElem hkS, uniqF_snoc, ← HD.out, List.getD_eq_getElem?_getD, List.getElem?_eq_getElem hkS]; rfl)
        have HL : Hid (D.getLast? = (S.take k).getLast?) := Lib.hid (by rw [HD.out]; exact uniqF_last _)
        have CP : Hid (0 < k → wr.cell? ⟨g, k - 1, none⟩ = some (iv (S.getD (k - 1) 0)) ∧ D.getLast? = some (S.getD (k - 1) 0)) := Lib.hid fun h0 => by
          have hl : D.getLast? = some (S.getD (k - 1) 0) := by
            rw [HL.out, List.getLast?_take, if_neg (by omega)]
            rw [getD_some S (k - 1) (by omega)]
            rfl
          refine ⟨?_, hl⟩
          rw [Own.out.cellAt (k - 1) (by omega), List.getElem?_map]
          by_cases h1 : D.length ≤ k - 1
          · rw [List.getElem?_append_right h1, List.getElem?_drop, show D.length + (k - 1 - D.length) = k - 1 by omega, getD_some S (k - 1) (by omega)]; rfl
          · rw [List.getElem?_append_left (by omega)]
            rw [List.getLast?_eq_getElem?] at hl
            rw [show k - 1 = D.length - 1 by omega, hl]; 
            rw [show D.length - 1 = k - 1 by omega]; rfl
        generalize S.getD k 0 = x at cl HU e1
        clear e1 HL
        generalize hdl : D.length = d at Own hdk ⊢
        have HDL := Lib.hid hdl
        clear hdl
        have OA := Lib.hid (ownsRow_grows Own.out (Grows.alloc wr (.cells #[iv x] 3)))
        have fz := OA.out.frozenAt d
        have cd : ∃ u, (wr.alloc (.cells #[iv x] 3)).cell? ⟨g, d, none⟩ = some u := by
          rw [OA.out.cellAt d (by omega)]
          exact ⟨_, List.getElem?_eq_getElem (by rw [OA.out.1]; omega)⟩
        obtain ⟨xd, cd⟩ := cd
        have OW := Lib.hid (OA.out.stored d (iv x)).1
        have GW := Lib.hid (OA.out.stored d (iv x)).2
        have fits : d + 1 ≤ cp := by omega
        have hn1 : d ≤ 100000 := by omega
        have hk1 : k ≤ 100000 := by omega
        by_cases hk0 : k = 0
        · subst hk0
          have hd0 : d = 0 := by omega
          subst hd0
          have HNE : Hid (¬ D.getLast? = some x) := Lib.hid (by rw [List.length_eq_zero_iff.1 HDL.out]; simp)
          clear CP
          go_wp2
          refine ⟨⟨0 + 1, D ++ [x], by simp, by rw [List.length_append, HDL.out]; simp, by omega, ?_, ?_, Below.grown (G.out.al _) GW.out (by have := G.out.size; simp only [World.size_alloc]; omega) (fun kk hkk => by cases hkk; exact HGB.out)⟩, by simp only [intOf]; omega⟩
          · rw [HU.out]; unfold uniqStep; rw [if_neg HNE.out]
          · have h1 := OW.out
            have h2 : (D ++ S.drop 0).map iv = D.map iv ++ (S.map iv).drop 0 := by rw [List.map_append, List.map_drop]
            rw [h2, set_mid (D.map iv) (S.map iv) 0 (iv x) (by rw [List.length_map, HN.out]; omega) (by rw [List.length_map, HDL.out])] at h1
            rw [List.length_append, HDL.out, List.map_append, List.map_append, List.map_drop]
            exact h1
        · obtain ⟨j, rfl⟩ : ∃ j, k = j + 1 := ⟨k - 1, by omega⟩
          have e2 : ((j + 1 : Nat) : Int) - 1 = (j : Int) := by omega
          have bk : ((j : Int) + 1 == 0) = false := by rw [beq_eq_false_iff_ne]; omega
          obtain ⟨cj, hlast⟩ := CP.out (by omega)
          rw [Nat.add_sub_cancel] at cj hlast
          generalize S.getD j 0 = y at cj hlast
          have HLA := Lib.hid hlast
          clear hlast CP
          by_cases hxy : x = y
          · subst hxy
            have HUU : Hid (uniqF (S.take (j + 1 + 1)) = D) := Lib.hid (by rw [HU.out]; unfold uniqStep; rw [if_pos HLA.out])
            clear OW GW OA fz cd
            go_wp2
            refine ⟨⟨j + 1 + 1, D, by simp, by rw [HDL.out], by omega, HUU.out.symm, by rw [HDL.out]; exact Own.out, G.out⟩, by simp only [intOf]; omega⟩
          · have bxy : (x == y) = false := by rw [beq_eq_false_iff_ne]; exact hxy
            have HNE : Hid (¬ D.getLast? = some x) := Lib.hid (by rw [HLA.out]; intro h; exact hxy (Option.some.inj h).symm)
            go_wp2
            refine ⟨⟨j + 1 + 1, D ++ [x], by simp, by rw [List.length_append, HDL.out]; simp, by omega, ?_, ?_, Below.grown (G.out.al _) GW.out (by have := G.out.size; simp only [World.size_alloc]; omega) (fun kk hkk => by cases hkk; exact HGB.out)⟩, by simp only [intOf]; omega⟩
            · rw [HU.out]; unfold uniqStep; rw [if_neg HNE.out]
            · have h1 := OW.out
              have h2 : (D ++ S.drop d).map iv = D.map iv ++ (S.map iv).drop d := by rw [List.map_append, List.map_drop]
              rw [h2, set_mid (D.map iv) (S.map iv) d (iv x) (by rw [List.length_map, HN.out]; omega) (by rw [List.length_map, HDL.out])] at h1
              rw [List.length_append, HDL.out, List.map_append, List.map_append, List.map_drop]
              exact h1
      · have hke : k = n := by omega
        subst hke
        have HF : Hid (D = uniqF S) := Lib.hid (by rw [HD.out, List.take_of_length_le (by rw [HN.out]; omega)])
        have OP := Lib.hid (own_prefix Own.out hdk)
        go_wp2
        go_ret
        refine ⟨_, rfl, ?_, G.out⟩
        have := OP.out
        rw [← HF.out]
        rw [List.map_append, List.take_append_of_le_length (by simp), List.take_of_length_le (by simp)] at this
        exact this

theorem points_any (v : Value) (l : List (Int × Int)) (w : World) (hp : PtsAt w v l) (hl : l.length ≤ 100000) :
    Calls Try.prog 11 #[v] w (fun e w' => ∃ u, e = .returned u ∧ w'.ownsRow w.heap.size 47 2 u (sortF lessP l).length (flat (sortF lessP l)) ∧ Grows w w') := by
  have HS := Lib.hid (sorted_pts 30 #[] lessP (fun _ _ => rfl) l.length l v w (Nat.le_refl _) (by omega) hp (fun w' _ x y _ _ => less_any x y w'))
  clear hp
  go_enter Try.func11, Try.ntmps11
  go_wp2_with fail
  refine HS.out.mono ?_
  rintro _ w1 ⟨u, rfl, hu, hg⟩
  have U := Lib.hid hu
  have G := Lib.hid hg
  clear hu hg HS
  go_wp2
  go_ret
  exact ⟨u, rfl, U.out, G.out⟩
end Go.Proofs.Ytigbojdnaeaojaa
