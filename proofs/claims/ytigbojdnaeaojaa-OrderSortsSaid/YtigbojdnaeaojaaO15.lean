/-
  Layer 4: strips (pure), and the law on them.
-/
import Derived.Test.YtigbojdnaeaojaaO14
namespace Go.Proofs.Ytigbojdnaeaojaa
open Go.RowKit Go.Tab

theorem tw_mono {p q : Int → Bool} (h : ∀ x, p x = true → q x = true) (l : List Int) : (l.takeWhile p).length ≤ (l.takeWhile q).length := by
  induction l with
  | nil => exact Nat.le_refl _
  | cons x l ih =>
    cases hp : p x with
    | false => simp [hp]
    | true => simp [hp, h x hp]; exact ih
theorem low_mono {n m : Int} (h : n ≤ m) (l : List Int) : lowF n l ≤ lowF m l := tw_mono (fun x hx => by simp at *; omega) l
theorem upp_mono {n m : Int} (h : n ≤ m) (l : List Int) : uppF n l ≤ uppF m l := tw_mono (fun x hx => by simp at *; omega) l
theorem low_upp {n m : Int} (h : n ≤ m) (l : List Int) : lowF n l ≤ uppF m l := tw_mono (fun x hx => by simp at *; omega) l
theorem upp_low {n m : Int} (h : n < m) (l : List Int) : uppF n l ≤ lowF m l := tw_mono (fun x hx => by simp at *; omega) l
theorem upp_gt {n : Int} {l : List Int} {i : Nat} (hl : Up l) (hi : i < l.length) (h : l.getD i 0 ≤ n) : i < uppF n l := by
  by_cases hh : i < uppF n l
  · exact hh
  · have := upp_behind hl (n := n) (i := i) (by omega) hi; omega
theorem low_gt {n : Int} {l : List Int} {i : Nat} (hl : Up l) (hi : i < l.length) (h : l.getD i 0 < n) : i < lowF n l := by
  by_cases hh : i < lowF n l
  · exact hh
  · have := low_behind hl (n := n) (i := i) (by omega) hi; omega
theorem has_iff {n : Int} {l : List Int} (hl : Up l) : hasF n l = decide (lowF n l < uppF n l) := by
  by_cases h : lowF n l < l.length
  · rw [hasF_true h]
    by_cases h2 : lowF n l < uppF n l
    · have h3 := upp_before h2
      have h4 := low_at h
      have : l.getD (lowF n l) 0 = n := by omega
      simp only [this, h2, decide_true, beq_self_eq_true]
    · have : ¬ l.getD (lowF n l) 0 = n := fun e => h2 (upp_gt hl h (by omega))
      simp only [h2, decide_false, beq_eq_false_iff_ne, ne_eq, this, not_false_eq_true]
  · rw [hasF_false h]
    have := upp_le n l
    rw [decide_eq_false (by omega)]
theorem common_symm (l : List Int) (a b : Int) : commonF l a b = commonF l b a := by unfold commonF; rw [Bool.and_comm]
theorem common_self (l : List Int) (a : Int) : commonF l a a = true := by
  unfold commonF
  have := low_upp (Int.le_refl a) l
  simp [this]
theorem common_near (l : List Int) (a b c : Int) (h : commonF l a b = true) : commonF l a (min (max c (min a b)) (max a b)) = true := by
  unfold commonF at h ⊢
  simp only [Bool.and_eq_true, decide_eq_true_eq] at h ⊢
  generalize hn : min (max c (min a b)) (max a b) = near
  rcases Int.le_total a b with hab | hab
  · have h1 : a ≤ near := by omega
    have h2 : near ≤ b := by omega
    exact ⟨low_upp h1 l, Nat.le_trans (low_mono h2 l) h.2⟩
  · have h1 : b ≤ near := by omega
    have h2 : near ≤ a := by omega
    exact ⟨Nat.le_trans h.1 (upp_mono h1 l), low_upp h2 l⟩

/-- The numbers as the law cuts them, and in order. -/
def cutL (V : Nat → Int) (n m : Nat) : List Int := (List.range (min n m)).map V
theorem cut_len (V : Nat → Int) (n m : Nat) : (cutL V n m).length = min n m := by simp [cutL]
theorem cut_get (V : Nat → Int) (n m k : Nat) (h : k < min n m) : (cutL V n m).getD k 0 = V k := by
  unfold cutL
  rw [List.getD_eq_getElem?_getD, List.getElem?_map, List.getElem?_range h]; rfl
theorem cut_take (V : Nat → Int) (n m k : Nat) (h : k < min n m) : (cutL V n m).take (k + 1) = (cutL V n m).take k ++ [V k] := by
  rw [List.take_succ_eq_append_getElem (by rw [cut_len]; exact h)]
  simp [cutL]
theorem ins_up (l : List Int) : Up (insertsF ltI [] l) := (Rises.inserts weakI l [] List.Pairwise.nil).up
theorem ins_len (l : List Int) : (insertsF ltI [] l).length = l.length := by rw [insertsF_length]; simp

theorem put_ints (v : Value) (l : List Int) (n : Int) (w : World) (hp : IntsAt w v l) (hll : l.length ≤ 1000000) (hu : Up l) :
    Calls Try.prog 19 #[v, iv n] w (fun e w' => ∃ u, e = .returned u ∧ IntsAt w' u (mergeF ltI l [n]) ∧ Grows w w') := by
  refine (put_any v l n w hp hll hu).mono ?_
  rintro _ w' ⟨u, rfl, hown, hg⟩
  exact ⟨u, rfl, own_ints hown rfl (by rw [put_len]; omega), hg⟩

set_option maxRecDepth 100000 in
set_option maxHeartbeats 4000000 in
theorem law_strips (V : Nat → Int) (a : Option Addr) (n cap : Nat) (p q r : Int) (w : World) (hn : n ≤ 9223372036854775807)
    (hc : Hid (∀ i, i < n → ∃ b off, a = some ⟨b, off, none⟩ ∧ b < w.heap.size ∧ w.cell? ⟨b, off + i, none⟩ = some (iv (V i)))) :
    Calls Try.prog 6 #[.slice a n cap, iv p, iv q, iv r] w (Ret (.bool true) w) := by
  have hmn : ∀ x y : Int, (if y < x then y else x) = min x y := fun x y => by omega
  have hmx : ∀ x y : Int, (if x < y then y else x) = max x y := fun x y => by omega
  obtain ⟨L, hL⟩ : ∃ L, L = cutL V n 60 := ⟨_, rfl⟩
  have HL : Hid (L.length = min n 60) := Lib.hid (by rw [hL, cut_len])
  have HT : Hid (∀ k, k < min n 60 → insertsF ltI [] (L.take (k + 1)) = mergeF ltI (insertsF ltI [] (L.take k)) [V k]) := Lib.hid fun k hk => by rw [hL, cut_take V n 60 k hk, insertsF_snoc]
  clear hL
  go_enter Try.func6, Try.ntmps6
  go_wp2
  go_loopw [9, 10] (fun o i wr => ∃ k : Nat, i = iv k ∧ k ≤ min n 60 ∧ IntsAt wr o (insertsF ltI [] (L.take k)) ∧ Grows w wr) (fun _ i _ => 61 - (intOf i).toNat)
  case atStart => exact ⟨0, rfl, Nat.zero_le _, ints_nil _, Grows.refl _⟩
  case round =>
    obtain ⟨k, rfl, hk, hi, hg⟩ := hrel
    have G := Lib.hid hg
    have I := Lib.hid hi
    clear hg hi
    by_cases hlt : k < n ∧ k < 60
    · obtain ⟨h1, h2⟩ := hlt
      obtain ⟨b, off, rfl, hb, hx⟩ := hc.out k h1
      have c1 : wr.cell? ⟨b, off + k, none⟩ = some (iv (V k)) := by rw [Below.cell G.out (p := ⟨b, off + k, none⟩) hb]; exact hx
      have HT' := Lib.hid (HT.out k (by omega))
      have HP := Lib.hid (put_ints u9 _ (V k) wr I.out (by rw [ins_len, List.length_take]; omega) (ins_up _))
      rw [← HT'.out] at HP
      generalize V k = x at c1 HP
      clear hx HT' I
      go_wp2_with fail
      refine HP.out.mono ?_
      rintro _ w1 ⟨u, rfl, hu, hg⟩
      have U := Lib.hid hu
      have G1 := Lib.hid (G.out.trans hg)
      clear hu hg HP c1
      go_wp2
      refine ⟨⟨k + 1, by simp, by omega, U.out, G1.out⟩, by simp only [intOf]; omega⟩
    · have hke : k = min n 60 := by omega
      obtain ⟨wo, rfl⟩ : ∃ wo : World, wo = wr := ⟨_, rfl⟩
      have I' : Hid (IntsAt wo u9 (insertsF ltI [] L)) := Lib.hid (by have := I.out; rwa [List.take_of_length_le (by rw [HL.out]; omega)] at this)
      have LS : Hid ((insertsF ltI [] L).length ≤ 60) := Lib.hid (by rw [ins_len, HL.out]; omega)
      have US := Lib.hid (ins_up L)
      generalize insertsF ltI [] L = S at I' LS US
      have hex : ¬ (k < n ∧ k < 60) := hlt
      have F1 := low_upp (Int.le_refl p) S
      have F2 := upp_le p S
      have F3 := Lib.hid (has_iff (n := p) US.out)
      have F5 := Lib.hid (common_self S p)
      have F6 := Lib.hid (common_near S p q r)
      have F4 := Lib.hid (common_symm S p q)
      have B1 := Lib.hid (fun i (hi : i < S.length) (h : S.getD i 0 < p) => low_gt US.out hi h)
      have B2 := Lib.hid (fun i (h : i < uppF p S) => upp_before h)
      have C1 := Lib.hid (fun w' (hg : Grows wo w') => strips_any u9 S p w' (I'.out.grows hg) (by have := LS.out; omega) US.out)
      have C2 := Lib.hid (fun w' (hg : Grows wo w') => find_any u9 S p w' (I'.out.grows hg) (by have := LS.out; omega) US.out)
      have C3 := Lib.hid (fun w' x y (hg : Grows wo w') => common_any u9 S x y w' (I'.out.grows hg) (by have := LS.out; omega) US.out)
      rw [F3.out] at C2
      generalize lowF p S = lo at F1 C1 C2 B1
      generalize uppF p S = up at F1 F2 C1 C2 B2
      obtain ⟨sa, sc, rfl, hcs, hzs⟩ := I'.out.shape
      have SL := Lib.hid (fun i (hi : i < S.length) => (I'.out.at_ (i := i) hi))
      have SG := Lib.hid (fun w' (hg : Grows wo w') => I'.out.grows hg)
      clear F3 hke HT HL hc I I' US hlt
      have G0 := G
      clear G
      generalize hm : S.length = m at C1 C2 C3 SL SG F2 LS hcs B1 ⊢
      have HM := Lib.hid hm
      clear hm
      have hcond : (k < n ∧ ¬ k < 60) ∨ ¬ k < n := by omega
      clear hex
      obtain ⟨bq, hbq⟩ : ∃ bq, bq = decide (lo < up) := ⟨_, rfl⟩
      rw [← hbq] at C2
      have hlu : if bq = true then lo < up else ¬ lo < up := by rw [hbq]; by_cases h : lo < up <;> simp [h]
      clear hbq
      have HLU := Lib.hid hlu
      have HMN := Lib.hid (And.intro hmn hmx)
      clear hlu hmn hmx
      rcases hcond with ⟨hkn, hk6⟩ | hkn
      · 
        go_wp2_with fail
        refine (C1.out _ (Grows.refl _)).mono ?_
        rintro _ w1 ⟨rfl, hg⟩
        have G1 := Lib.hid hg
        clear hg C1
        go_wp2_with fail
        refine (C2.out _ G1.out).mono ?_
        rintro _ w2 ⟨rfl, hg⟩
        have G2 := Lib.hid (G1.out.trans hg)
        clear hg C2 G1
        cases bq with
        | true =>
          have hlu : lo < up := by simpa using HLU.out
          clear HLU
          go_wp2_with fail
          go_loopw [15] (fun i wr => ∃ j : Nat, i = iv j ∧ j ≤ m ∧ Grows wo wr) (fun i _ => m - (intOf i).toNat)
          case atStart => exact ⟨0, rfl, Nat.zero_le _, G2.out⟩
          case round =>
            obtain ⟨j, rfl, hj, hg⟩ := hrel
            have G3 := Lib.hid hg
            clear hg G2
            by_cases hjm : j < m
            · have hj60 : j < 60 := by have := LS.out; omega
              obtain ⟨b, off, rfl, hb, hx⟩ := SL.out j hjm
              have c1 : wr.cell? ⟨b, off + j, none⟩ = some (iv (S.getD j 0)) := by rw [Below.cell G3.out (p := ⟨b, off + j, none⟩) hb]; exact hx
              have b1 := B1.out j hjm
              have b2 := B2.out j
              generalize S.getD j 0 = x at c1 b1 b2
              clear hx C3 F5 F6 F4 SL SG B1 B2
              by_cases hxp : x < p
              · have h1 : ¬ lo ≤ j := by have := b1 hxp; omega
                have h2 : ¬ p < x := by omega
                clear b1 b2
                go_wp2
                refine ⟨⟨j + 1, by simp, by omega, G3.out⟩, by simp only [intOf]; omega⟩
              · by_cases hpx : p < x
                · have h1 : ¬ j < up := fun h => by have := b2 h; omega
                  clear b1 b2
                  go_wp2
                  refine ⟨⟨j + 1, by simp, by omega, G3.out⟩, by simp only [intOf]; omega⟩
                · clear b1 b2
                  go_wp2
                  refine ⟨⟨j + 1, by simp, by omega, G3.out⟩, by simp only [intOf]; omega⟩
            · have hmn := HMN.out.1
              have hmx := HMN.out.2
              have D1 := Lib.hid (fun w' (hg : Grows wo w') => C3.out w' p q hg)
              have D2 := Lib.hid (fun w' (hg : Grows wo w') => C3.out w' q p hg)
              have D3 := Lib.hid (fun w' (hg : Grows wo w') => C3.out w' p p hg)
              have D4 := Lib.hid (fun w' (hg : Grows wo w') => C3.out w' p (min (max r (min p q)) (max p q)) hg)
              rw [← F4.out] at D2
              rw [F5.out] at D3
              have F6' := F6.out
              generalize commonF S p q = z at D1 D2 F6'
              clear C3 F5 F6 F4 SL SG B1 B2
              go_wp2_with fail
              refine (kn_any _).mono ?_
              rintro _ w4 ⟨rfl, hg⟩
              have G4 := Lib.hid (G3.out.trans hg)
              clear hg G3 hmn hmx
              go_wp2_with fail
              refine (D1.out _ G4.out).mono ?_
              rintro _ w5 ⟨rfl, hg⟩
              have G5 := Lib.hid (G4.out.trans hg)
              clear hg G4
              go_wp2_with fail
              refine (D2.out _ G5.out).mono ?_
              rintro _ w6 ⟨rfl, hg⟩
              have G6 := Lib.hid (G5.out.trans hg)
              clear hg G5
              cases z with
              | true =>
                rw [F6' rfl] at D4
                clear F6'
                go_wp2_with fail
                refine (D3.out _ G6.out).mono ?_
                rintro _ w7 ⟨rfl, hg⟩
                have G7 := Lib.hid (G6.out.trans hg)
                clear hg G6
                go_wp2_with fail
                refine (D1.out _ G7.out).mono ?_
                rintro _ w8 ⟨rfl, hg⟩
                have G8 := Lib.hid (G7.out.trans hg)
                clear hg G7
                go_wp2_with fail
                refine (D4.out _ G8.out).mono ?_
                rintro _ w9 ⟨rfl, hg⟩
                have G9 := Lib.hid (G8.out.trans hg)
                clear hg G8
                go_wp2
                go_ret
                exact ⟨rfl, G0.out.trans G9.out⟩
              | false =>
                clear F6' D4
                go_wp2_with fail
                refine (D3.out _ G6.out).mono ?_
                rintro _ w7 ⟨rfl, hg⟩
                have G7 := Lib.hid (G6.out.trans hg)
                clear hg G6
                go_wp2_with fail
                refine (D1.out _ G7.out).mono ?_
                rintro _ w8 ⟨rfl, hg⟩
                have G8 := Lib.hid (G7.out.trans hg)
                clear hg G7
                go_wp2
                go_ret
                exact ⟨rfl, G0.out.trans G8.out⟩
        | false =>
          have hlu : ¬ lo < up := by simpa using HLU.out
          clear HLU
          go_wp2_with fail
          go_loopw [15] (fun i wr => ∃ j : Nat, i = iv j ∧ j ≤ m ∧ Grows wo wr) (fun i _ => m - (intOf i).toNat)
          case atStart => exact ⟨0, rfl, Nat.zero_le _, G2.out⟩
          case round =>
            obtain ⟨j, rfl, hj, hg⟩ := hrel
            have G3 := Lib.hid hg
            clear hg G2
            by_cases hjm : j < m
            · have hj60 : j < 60 := by have := LS.out; omega
              obtain ⟨b, off, rfl, hb, hx⟩ := SL.out j hjm
              have c1 : wr.cell? ⟨b, off + j, none⟩ = some (iv (S.getD j 0)) := by rw [Below.cell G3.out (p := ⟨b, off + j, none⟩) hb]; exact hx
              have b1 := B1.out j hjm
              have b2 := B2.out j
              generalize S.getD j 0 = x at c1 b1 b2
              clear hx C3 F5 F6 F4 SL SG B1 B2
              by_cases hxp : x < p
              · have h1 : ¬ lo ≤ j := by have := b1 hxp; omega
                have h2 : ¬ p < x := by omega
                clear b1 b2
                go_wp2
                refine ⟨⟨j + 1, by simp, by omega, G3.out⟩, by simp only [intOf]; omega⟩
              · by_cases hpx : p < x
                · have h1 : ¬ j < up := fun h => by have := b2 h; omega
                  clear b1 b2
                  go_wp2
                  refine ⟨⟨j + 1, by simp, by omega, G3.out⟩, by simp only [intOf]; omega⟩
                · clear b1 b2
                  go_wp2
                  refine ⟨⟨j + 1, by simp, by omega, G3.out⟩, by simp only [intOf]; omega⟩
            · have hmn := HMN.out.1
              have hmx := HMN.out.2
              have D1 := Lib.hid (fun w' (hg : Grows wo w') => C3.out w' p q hg)
              have D2 := Lib.hid (fun w' (hg : Grows wo w') => C3.out w' q p hg)
              have D3 := Lib.hid (fun w' (hg : Grows wo w') => C3.out w' p p hg)
              have D4 := Lib.hid (fun w' (hg : Grows wo w') => C3.out w' p (min (max r (min p q)) (max p q)) hg)
              rw [← F4.out] at D2
              rw [F5.out] at D3
              have F6' := F6.out
              generalize commonF S p q = z at D1 D2 F6'
              clear C3 F5 F6 F4 SL SG B1 B2
              go_wp2_with fail
              refine (kn_any _).mono ?_
              rintro _ w4 ⟨rfl, hg⟩
              have G4 := Lib.hid (G3.out.trans hg)
              clear hg G3 hmn hmx
              go_wp2_with fail
              refine (D1.out _ G4.out).mono ?_
              rintro _ w5 ⟨rfl, hg⟩
              have G5 := Lib.hid (G4.out.trans hg)
              clear hg G4
              go_wp2_with fail
              refine (D2.out _ G5.out).mono ?_
              rintro _ w6 ⟨rfl, hg⟩
              have G6 := Lib.hid (G5.out.trans hg)
              clear hg G5
              cases z with
              | true =>
                rw [F6' rfl] at D4
                clear F6'
                go_wp2_with fail
                refine (D3.out _ G6.out).mono ?_
                rintro _ w7 ⟨rfl, hg⟩
                have G7 := Lib.hid (G6.out.trans hg)
                clear hg G6
                go_wp2_with fail
                refine (D1.out _ G7.out).mono ?_
                rintro _ w8 ⟨rfl, hg⟩
                have G8 := Lib.hid (G7.out.trans hg)
                clear hg G7
                go_wp2_with fail
                refine (D4.out _ G8.out).mono ?_
                rintro _ w9 ⟨rfl, hg⟩
                have G9 := Lib.hid (G8.out.trans hg)
                clear hg G8
                go_wp2
                go_ret
                exact ⟨rfl, G0.out.trans G9.out⟩
              | false =>
                clear F6' D4
                go_wp2_with fail
                refine (D3.out _ G6.out).mono ?_
                rintro _ w7 ⟨rfl, hg⟩
                have G7 := Lib.hid (G6.out.trans hg)
                clear hg G6
                go_wp2_with fail
                refine (D1.out _ G7.out).mono ?_
                rintro _ w8 ⟨rfl, hg⟩
                have G8 := Lib.hid (G7.out.trans hg)
                clear hg G7
                go_wp2
                go_ret
                exact ⟨rfl, G0.out.trans G8.out⟩
      · 
        go_wp2_with fail
        refine (C1.out _ (Grows.refl _)).mono ?_
        rintro _ w1 ⟨rfl, hg⟩
        have G1 := Lib.hid hg
        clear hg C1
        go_wp2_with fail
        refine (C2.out _ G1.out).mono ?_
        rintro _ w2 ⟨rfl, hg⟩
        have G2 := Lib.hid (G1.out.trans hg)
        clear hg C2 G1
        cases bq with
        | true =>
          have hlu : lo < up := by simpa using HLU.out
          clear HLU
          go_wp2_with fail
          go_loopw [15] (fun i wr => ∃ j : Nat, i = iv j ∧ j ≤ m ∧ Grows wo wr) (fun i _ => m - (intOf i).toNat)
          case atStart => exact ⟨0, rfl, Nat.zero_le _, G2.out⟩
          case round =>
            obtain ⟨j, rfl, hj, hg⟩ := hrel
            have G3 := Lib.hid hg
            clear hg G2
            by_cases hjm : j < m
            · have hj60 : j < 60 := by have := LS.out; omega
              obtain ⟨b, off, rfl, hb, hx⟩ := SL.out j hjm
              have c1 : wr.cell? ⟨b, off + j, none⟩ = some (iv (S.getD j 0)) := by rw [Below.cell G3.out (p := ⟨b, off + j, none⟩) hb]; exact hx
              have b1 := B1.out j hjm
              have b2 := B2.out j
              generalize S.getD j 0 = x at c1 b1 b2
              clear hx C3 F5 F6 F4 SL SG B1 B2
              by_cases hxp : x < p
              · have h1 : ¬ lo ≤ j := by have := b1 hxp; omega
                have h2 : ¬ p < x := by omega
                clear b1 b2
                go_wp2
                refine ⟨⟨j + 1, by simp, by omega, G3.out⟩, by simp only [intOf]; omega⟩
              · by_cases hpx : p < x
                · have h1 : ¬ j < up := fun h => by have := b2 h; omega
                  clear b1 b2
                  go_wp2
                  refine ⟨⟨j + 1, by simp, by omega, G3.out⟩, by simp only [intOf]; omega⟩
                · clear b1 b2
                  go_wp2
                  refine ⟨⟨j + 1, by simp, by omega, G3.out⟩, by simp only [intOf]; omega⟩
            · have hmn := HMN.out.1
              have hmx := HMN.out.2
              have D1 := Lib.hid (fun w' (hg : Grows wo w') => C3.out w' p q hg)
              have D2 := Lib.hid (fun w' (hg : Grows wo w') => C3.out w' q p hg)
              have D3 := Lib.hid (fun w' (hg : Grows wo w') => C3.out w' p p hg)
              have D4 := Lib.hid (fun w' (hg : Grows wo w') => C3.out w' p (min (max r (min p q)) (max p q)) hg)
              rw [← F4.out] at D2
              rw [F5.out] at D3
              have F6' := F6.out
              generalize commonF S p q = z at D1 D2 F6'
              clear C3 F5 F6 F4 SL SG B1 B2
              go_wp2_with fail
              refine (kn_any _).mono ?_
              rintro _ w4 ⟨rfl, hg⟩
              have G4 := Lib.hid (G3.out.trans hg)
              clear hg G3 hmn hmx
              go_wp2_with fail
              refine (D1.out _ G4.out).mono ?_
              rintro _ w5 ⟨rfl, hg⟩
              have G5 := Lib.hid (G4.out.trans hg)
              clear hg G4
              go_wp2_with fail
              refine (D2.out _ G5.out).mono ?_
              rintro _ w6 ⟨rfl, hg⟩
              have G6 := Lib.hid (G5.out.trans hg)
              clear hg G5
              cases z with
              | true =>
                rw [F6' rfl] at D4
                clear F6'
                go_wp2_with fail
                refine (D3.out _ G6.out).mono ?_
                rintro _ w7 ⟨rfl, hg⟩
                have G7 := Lib.hid (G6.out.trans hg)
                clear hg G6
                go_wp2_with fail
                refine (D1.out _ G7.out).mono ?_
                rintro _ w8 ⟨rfl, hg⟩
                have G8 := Lib.hid (G7.out.trans hg)
                clear hg G7
                go_wp2_with fail
                refine (D4.out _ G8.out).mono ?_
                rintro _ w9 ⟨rfl, hg⟩
                have G9 := Lib.hid (G8.out.trans hg)
                clear hg G8
                go_wp2
                go_ret
                exact ⟨rfl, G0.out.trans G9.out⟩
              | false =>
                clear F6' D4
                go_wp2_with fail
                refine (D3.out _ G6.out).mono ?_
                rintro _ w7 ⟨rfl, hg⟩
                have G7 := Lib.hid (G6.out.trans hg)
                clear hg G6
                go_wp2_with fail
                refine (D1.out _ G7.out).mono ?_
                rintro _ w8 ⟨rfl, hg⟩
                have G8 := Lib.hid (G7.out.trans hg)
                clear hg G7
                go_wp2
                go_ret
                exact ⟨rfl, G0.out.trans G8.out⟩
        | false =>
          have hlu : ¬ lo < up := by simpa using HLU.out
          clear HLU
          go_wp2_with fail
          go_loopw [15] (fun i wr => ∃ j : Nat, i = iv j ∧ j ≤ m ∧ Grows wo wr) (fun i _ => m - (intOf i).toNat)
          case atStart => exact ⟨0, rfl, Nat.zero_le _, G2.out⟩
          case round =>
            obtain ⟨j, rfl, hj, hg⟩ := hrel
            have G3 := Lib.hid hg
            clear hg G2
            by_cases hjm : j < m
            · have hj60 : j < 60 := by have := LS.out; omega
              obtain ⟨b, off, rfl, hb, hx⟩ := SL.out j hjm
              have c1 : wr.cell? ⟨b, off + j, none⟩ = some (iv (S.getD j 0)) := by rw [Below.cell G3.out (p := ⟨b, off + j, none⟩) hb]; exact hx
              have b1 := B1.out j hjm
              have b2 := B2.out j
              generalize S.getD j 0 = x at c1 b1 b2
              clear hx C3 F5 F6 F4 SL SG B1 B2
              by_cases hxp : x < p
              · have h1 : ¬ lo ≤ j := by have := b1 hxp; omega
                have h2 : ¬ p < x := by omega
                clear b1 b2
                go_wp2
                refine ⟨⟨j + 1, by simp, by omega, G3.out⟩, by simp only [intOf]; omega⟩
              · by_cases hpx : p < x
                · have h1 : ¬ j < up := fun h => by have := b2 h; omega
                  clear b1 b2
                  go_wp2
                  refine ⟨⟨j + 1, by simp, by omega, G3.out⟩, by simp only [intOf]; omega⟩
                · clear b1 b2
                  go_wp2
                  refine ⟨⟨j + 1, by simp, by omega, G3.out⟩, by simp only [intOf]; omega⟩
            · have hmn := HMN.out.1
              have hmx := HMN.out.2
              have D1 := Lib.hid (fun w' (hg : Grows wo w') => C3.out w' p q hg)
              have D2 := Lib.hid (fun w' (hg : Grows wo w') => C3.out w' q p hg)
              have D3 := Lib.hid (fun w' (hg : Grows wo w') => C3.out w' p p hg)
              have D4 := Lib.hid (fun w' (hg : Grows wo w') => C3.out w' p (min (max r (min p q)) (max p q)) hg)
              rw [← F4.out] at D2
              rw [F5.out] at D3
              have F6' := F6.out
              generalize commonF S p q = z at D1 D2 F6'
              clear C3 F5 F6 F4 SL SG B1 B2
              go_wp2_with fail
              refine (kn_any _).mono ?_
              rintro _ w4 ⟨rfl, hg⟩
              have G4 := Lib.hid (G3.out.trans hg)
              clear hg G3 hmn hmx
              go_wp2_with fail
              refine (D1.out _ G4.out).mono ?_
              rintro _ w5 ⟨rfl, hg⟩
              have G5 := Lib.hid (G4.out.trans hg)
              clear hg G4
              go_wp2_with fail
              refine (D2.out _ G5.out).mono ?_
              rintro _ w6 ⟨rfl, hg⟩
              have G6 := Lib.hid (G5.out.trans hg)
              clear hg G5
              cases z with
              | true =>
                rw [F6' rfl] at D4
                clear F6'
                go_wp2_with fail
                refine (D3.out _ G6.out).mono ?_
                rintro _ w7 ⟨rfl, hg⟩
                have G7 := Lib.hid (G6.out.trans hg)
                clear hg G6
                go_wp2_with fail
                refine (D1.out _ G7.out).mono ?_
                rintro _ w8 ⟨rfl, hg⟩
                have G8 := Lib.hid (G7.out.trans hg)
                clear hg G7
                go_wp2_with fail
                refine (D4.out _ G8.out).mono ?_
                rintro _ w9 ⟨rfl, hg⟩
                have G9 := Lib.hid (G8.out.trans hg)
                clear hg G8
                go_wp2
                go_ret
                exact ⟨rfl, G0.out.trans G9.out⟩
              | false =>
                clear F6' D4
                go_wp2_with fail
                refine (D3.out _ G6.out).mono ?_
                rintro _ w7 ⟨rfl, hg⟩
                have G7 := Lib.hid (G6.out.trans hg)
                clear hg G6
                go_wp2_with fail
                refine (D1.out _ G7.out).mono ?_
                rintro _ w8 ⟨rfl, hg⟩
                have G8 := Lib.hid (G7.out.trans hg)
                clear hg G7
                go_wp2
                go_ret
                exact ⟨rfl, G0.out.trans G8.out⟩
end Go.Proofs.Ytigbojdnaeaojaa
