/-
  Layer 4: the law on places.
-/
import Derived.Test.YtigbojdnaeaojaaO15
namespace Go.Proofs.Ytigbojdnaeaojaa
open Go.RowKit Go.Tab

theorem tw_all {p : Int → Bool} (l : List Int) (h : ∀ x ∈ l, p x = true) : l.takeWhile p = l := by
  induction l with
  | nil => rfl
  | cons x l ih => simp [h x List.mem_cons_self, ih (fun y hy => h y (List.mem_cons_of_mem _ hy))]
theorem mergeF_snoc {l : List Int} {x : Int} (h : ∀ q ∈ l, q ≤ x) : mergeF ltI l [x] = l ++ [x] := by
  rw [mergeF_one]
  have : placeF ltI x l = l.length := by
    unfold placeF
    rw [tw_all l (fun q hq => by have := h q hq; simp; omega)]
  rw [this]
  simp
theorem ins_sorted : ∀ (n : Nat) (l : List Int), l.length = n → Up l → insertsF ltI [] l = l
  | 0, l, hn, _ => by rw [List.length_eq_zero_iff.1 hn]; rfl
  | n + 1, l, hn, hl => by
    have hne : l ≠ [] := fun h => by rw [h] at hn; cases hn
    have hd := List.dropLast_concat_getLast hne
    have h1 : Up l.dropLast := hl.sublist (List.dropLast_sublist l)
    have ih := ins_sorted n l.dropLast (by rw [List.length_dropLast]; omega) h1
    rw [← hd, insertsF_snoc, ih]
    refine mergeF_snoc fun q hq => ?_
    rw [← hd] at hl
    exact (List.pairwise_append.1 hl).2.2 q hq _ (List.mem_singleton.2 rfl)
/-- Two rising lists, merged, are one put into the other. -/
theorem merge_ins {a b : List Int} (hb : Up b) : mergeF ltI a b = insertsF ltI a b := by
  rw [insertsF_merge weakI b a, ins_sorted _ b rfl hb]

theorem any_iff_strip {l : List Int} (hl : Up l) {n m : Int} (h : n ≤ m) : (l.any fun x => decide (n < x) && decide (x < m)) = decide (uppF n l < lowF m l) := by
  by_cases hh : uppF n l < lowF m l
  · rw [decide_eq_true hh, List.any_eq_true]
    have h1 := low_le m l
    refine ⟨l.getD (uppF n l) 0, ?_, ?_⟩
    · rw [List.getD_eq_getElem?_getD, List.getElem?_eq_getElem (by omega)]; exact List.getElem_mem _
    · have h2 := upp_at (n := n) (l := l) (by omega)
      have h3 := low_before hh
      simp only [Bool.and_eq_true, decide_eq_true_eq]
      exact ⟨h2, h3⟩
  · rw [decide_eq_false hh, List.any_eq_false]
    intro x hx
    obtain ⟨i, hi, rfl⟩ := List.mem_iff_getElem.1 hx
    simp only [Bool.and_eq_true, decide_eq_true_eq, not_and]
    intro h1 h2
    have e : l.getD i 0 = l[i] := by rw [List.getD_eq_getElem?_getD, List.getElem?_eq_getElem hi]; rfl
    have h3 := low_gt (n := m) hl hi (by rw [e]; exact h2)
    by_cases h4 : i < uppF n l
    · have := upp_before h4; rw [e] at this; omega
    · omega
theorem common_apart {l : List Int} (hl : Up l) (n m : Int) : commonF l n m = !(l.any (betB n m)) := by
  have e1 : n ≤ m → l.any (betB n m) = l.any fun x => decide (n < x) && decide (x < m) := fun h => by
    congr 1
    funext x
    unfold betB
    by_cases h1 : m < x
    · have h2 : ¬ x < n := by omega
      simp [h2]
    · simp [h1]
  have key : ∀ n m : Int, n ≤ m → commonF l n m = !(l.any fun x => decide (n < x) && decide (x < m)) := fun n m h => by
    rw [any_iff_strip hl h]
    unfold commonF
    have h1 := low_upp h l
    by_cases hh : uppF n l < lowF m l
    · have h2 : ¬ lowF m l ≤ uppF n l := by omega
      simp [hh, h2]
    · have h2 : lowF m l ≤ uppF n l := by omega
      simp [hh, h1, h2]
  rcases Int.le_total n m with h | h
  · rw [e1 h, key n m h]
  · have e2 : l.any (betB n m) = l.any (betB m n) := by
      congr 1; funext x; unfold betB; rw [Bool.or_comm]
    have e3 : l.any (betB m n) = l.any fun x => decide (m < x) && decide (x < n) := by
      congr 1
      funext x
      unfold betB
      by_cases h1 : n < x
      · have h2 : ¬ x < m := by omega
        simp [h2]
      · simp [h1]
    rw [common_symm, key m n h, e2, e3]

set_option maxRecDepth 100000 in
set_option maxHeartbeats 8000000 in
theorem law_finds (VA VB : Nat → Int) (a : Option Addr) (na ca : Nat) (b' : Option Addr) (nb cb : Nat) (p q : Int) (w : World) (hna : na ≤ 9223372036854775807) (hnb : nb ≤ 9223372036854775807)
    (hcA : Hid (∀ i, i < na → ∃ b off, a = some ⟨b, off, none⟩ ∧ b < w.heap.size ∧ w.cell? ⟨b, off + i, none⟩ = some (iv (VA i))))
    (hcB : Hid (∀ i, i < nb → ∃ b off, b' = some ⟨b, off, none⟩ ∧ b < w.heap.size ∧ w.cell? ⟨b, off + i, none⟩ = some (iv (VB i)))) :
    Calls Try.prog 4 #[.slice a na ca, .slice b' nb cb, iv p, iv q] w (Ret (.bool true) w) := by
  obtain ⟨i0, hi0, hi1, hi2, hi3⟩ := info_parts infoI
  obtain ⟨LA0, hLA⟩ : ∃ L, L = cutL VA na 60 := ⟨_, rfl⟩
  have HLA : Hid (LA0.length = min na 60) := Lib.hid (by rw [hLA, cut_len])
  have HTA : Hid (∀ k, k < min na 60 → insertsF ltI [] (LA0.take (k + 1)) = mergeF ltI (insertsF ltI [] (LA0.take k)) [VA k]) := Lib.hid fun k hk => by rw [hLA, cut_take VA na 60 k hk, insertsF_snoc]
  clear hLA
  obtain ⟨LB, hLB⟩ : ∃ L, L = cutL VB nb 60 := ⟨_, rfl⟩
  have HLB : Hid (LB.length = min nb 60) := Lib.hid (by rw [hLB, cut_len])
  have HTB : Hid (∀ k, k < min nb 60 → insertsF ltI [] (LB.take (k + 1)) = mergeF ltI (insertsF ltI [] (LB.take k)) [VB k]) := Lib.hid fun k hk => by rw [hLB, cut_take VB nb 60 k hk, insertsF_snoc]
  clear hLB
  go_enter Try.func4, Try.ntmps4
  go_wp2
  go_loopw [9, 11] (fun o i wr => ∃ k : Nat, i = iv k ∧ k ≤ min na 60 ∧ IntsAt wr o (insertsF ltI [] (LA0.take k)) ∧ Grows w wr) (fun _ i _ => 61 - (intOf i).toNat)
  case atStart => exact ⟨0, rfl, Nat.zero_le _, ints_nil _, Grows.refl _⟩
  case round =>
    obtain ⟨k, rfl, hk, hi, hg⟩ := hrel
    have G := Lib.hid hg
    have I := Lib.hid hi
    clear hg hi
    by_cases hlt : k < na ∧ k < 60
    · obtain ⟨h1, h2⟩ := hlt
      obtain ⟨b, off, rfl, hb, hx⟩ := hcA.out k h1
      have c1 : wr.cell? ⟨b, off + k, none⟩ = some (iv (VA k)) := by rw [Below.cell G.out (p := ⟨b, off + k, none⟩) hb]; exact hx
      have HT' := Lib.hid (HTA.out k (by omega))
      have HP := Lib.hid (put_ints u9 _ (VA k) wr I.out (by rw [ins_len, List.length_take]; omega) (ins_up _))
      rw [← HT'.out] at HP
      generalize VA k = x at c1 HP
      clear hx HT' I
      go_wp2_with fail
      refine HP.out.mono ?_
      rintro _ w1 ⟨u, rfl, hu, hg⟩
      have U := Lib.hid hu
      have G1 := Lib.hid (G.out.trans hg)
      clear hu hg HP c1
      go_wp2
      refine ⟨⟨k + 1, by simp, by omega, U.out, G1.out⟩, by simp only [intOf]; omega⟩
    · have I' : Hid (IntsAt wr u9 (insertsF ltI [] LA0)) := Lib.hid (by have := I.out; rwa [List.take_of_length_le (by rw [HLA.out]; omega)] at this)
      have hcond : (k < na ∧ ¬ k < 60) ∨ ¬ k < na := by omega
      clear hlt hk I HTA hcA
      rcases hcond with ⟨hkn, hk6⟩ | hkn
      · 
        obtain ⟨wo, rfl⟩ : ∃ wo : World, wo = wr := ⟨_, rfl⟩
        have LX : Hid ((insertsF ltI [] LA0).length ≤ 60) := Lib.hid (by rw [ins_len, HLA.out]; omega)
        have UX := Lib.hid (ins_up LA0)
        generalize insertsF ltI [] LA0 = SX at I' LX UX
        have XI := I'
        have G0 := G
        clear I' G
        go_wp2
        go_loopw [10, 12] (fun o i wr => ∃ k : Nat, i = iv k ∧ k ≤ min nb 60 ∧ IntsAt wr o (insertsF ltI [] (LB.take k)) ∧ Grows wo wr) (fun _ i _ => 61 - (intOf i).toNat)
        case atStart => exact ⟨0, rfl, Nat.zero_le _, ints_nil _, Grows.refl _⟩
        case round =>
          obtain ⟨k, rfl, hk, hi, hg⟩ := hrel
          have G := Lib.hid hg
          have I := Lib.hid hi
          clear hg hi
          by_cases hlt : k < nb ∧ k < 60
          · obtain ⟨h1, h2⟩ := hlt
            obtain ⟨b, off, rfl, hb, hx⟩ := hcB.out k h1
            have c1 : wr.cell? ⟨b, off + k, none⟩ = some (iv (VB k)) := by rw [Below.cell (G0.out.trans G.out) (p := ⟨b, off + k, none⟩) hb]; exact hx
            have HT' := Lib.hid (HTB.out k (by omega))
            have HP := Lib.hid (put_ints u10 _ (VB k) wr I.out (by rw [ins_len, List.length_take]; omega) (ins_up _))
            rw [← HT'.out] at HP
            generalize VB k = x at c1 HP
            clear hx HT' I
            go_wp2_with fail
            refine HP.out.mono ?_
            rintro _ w1 ⟨u, rfl, hu, hg⟩
            have U := Lib.hid hu
            have G1 := Lib.hid (G.out.trans hg)
            clear hu hg HP c1
            go_wp2
            refine ⟨⟨k + 1, by simp, by omega, U.out, G1.out⟩, by simp only [intOf]; omega⟩
          · have I' : Hid (IntsAt wr u10 (insertsF ltI [] LB)) := Lib.hid (by have := I.out; rwa [List.take_of_length_le (by rw [HLB.out]; omega)] at this)
            have hcond : (k < nb ∧ ¬ k < 60) ∨ ¬ k < nb := by omega
            clear hlt hk I HTB hcB
            rcases hcond with ⟨hkn, hk6⟩ | hkn
            · 
              obtain ⟨wp, rfl⟩ : ∃ wp : World, wp = wr := ⟨_, rfl⟩
              have LY : Hid ((insertsF ltI [] LB).length ≤ 60) := Lib.hid (by rw [ins_len, HLB.out]; omega)
              have UY := Lib.hid (ins_up LB)
              generalize insertsF ltI [] LB = SY at I' LY UY
              have XI := Lib.hid (fun w' (hg : Grows wp w') => XI.out.grows (G.out.trans hg))
              have YI := Lib.hid (fun w' (hg : Grows wp w') => I'.out.grows hg)
              have GP := Lib.hid (G0.out.trans G.out)
              clear I' G G0
              have EQ : Hid (mergeF ltI SX SY = insertsF ltI SX SY) := Lib.hid (merge_ins UY.out)
              have UA : Hid (∀ k, Up (insertsF ltI SX (SY.take k))) := Lib.hid fun k => (Rises.inserts weakI _ SX UX.out.rises).up
              have LA : Hid (∀ k, (insertsF ltI SX (SY.take k)).length ≤ 1000) := Lib.hid fun k => by rw [insertsF_length, List.length_take]; have := LX.out; have := LY.out; omega
              have HS : Hid (∀ k, k < SY.length → insertsF ltI SX (SY.take (k + 1)) = mergeF ltI (insertsF ltI SX (SY.take k)) [SY.getD k 0]) := Lib.hid fun k hk => by
                rw [List.take_succ_eq_append_getElem hk, insertsF_snoc, List.getD_eq_getElem?_getD, List.getElem?_eq_getElem hk]; rfl
              have CM := Lib.hid (fun w' (hg : Grows wp w') => merge_any _ _ SX SY w' (XI.out w' hg) (YI.out w' hg) (by have := LX.out; omega) (by have := LY.out; omega))
              have CF := Lib.hid (fun w' (hg : Grows wp w') => find_any _ SX p w' (XI.out w' hg) (by have := LX.out; omega) UX.out)
              have CR := Lib.hid (fun w' (hg : Grows wp w') => rfind_any _ SX p w' (XI.out w' hg))
              have CS := Lib.hid (fun w' (hg : Grows wp w') => strips_any _ SX p w' (XI.out w' hg) (by have := LX.out; omega) UX.out)
              have CC := Lib.hid (fun w' (hg : Grows wp w') => common_any _ SX p q w' (XI.out w' hg) (by have := LX.out; omega) UX.out)
              have CA := Lib.hid (fun w' (hg : Grows wp w') => rapart_any _ SX p q w' (XI.out w' hg))
              rw [EQ.out] at CM
              have EC := Lib.hid (common_apart UX.out p q)
              rw [EC.out] at CC
              generalize SX.any (betB p q) = apz at CC CA
              have F1 := low_upp (Int.le_refl p) SX
              have F2 := upp_le p SX
              have B1 : Hid (∀ i, i < SX.length → (SX.getD i 0 = p ↔ lowF p SX ≤ i ∧ i < uppF p SX)) := Lib.hid fun i hi => by
                constructor
                · intro h
                  refine ⟨?_, upp_gt UX.out hi (by omega)⟩
                  by_cases h2 : lowF p SX ≤ i
                  · exact h2
                  · have := low_before (n := p) (l := SX) (i := i) (by omega); omega
                · rintro ⟨h1, h2⟩
                  have h3 := low_behind UX.out h1 hi
                  have h4 := upp_before h2
                  omega
              generalize lowF p SX = lo at F1 CF CR CS B1
              generalize uppF p SX = up at F1 F2 CS B1
              generalize hasF p SX = hs at CF CR
              obtain ⟨ax, cx, rfl, hcx, hzx⟩ := (XI.out wp (Grows.refl _)).shape
              obtain ⟨ay, cy, rfl, hcy, hzy⟩ := (YI.out wp (Grows.refl _)).shape
              generalize hmx : SX.length = mx at XI LX F2 B1 CM CF CR CS CC CA hcx ⊢
              generalize hmy : SY.length = my at YI LY HS CM hcy ⊢
              have HMX := Lib.hid hmx
              have HMY := Lib.hid hmy
              clear hmx hmy EC UX UY hzx hzy
              go_wp2_with (at_builtin; refine append_ints rfl _ _ 24 rfl wp.heap.size 3 i0 (.int .i64 0) 8 Try.underlying24 hi0 hi1 hi2 hi3 rfl (.slice (some ⟨wp.heap.size, 0, none⟩) 0 0) 0 [] rfl (own_empty (by decide)) SX _ rfl (XI.out _ (Grows.alloc wp _)) (by rw [HMX.out]; have := LX.out; unfold maxLen; omega) (by rw [HMX.out]; have := LX.out; omega) (by simp only [World.size_alloc]; omega) ?_; intro va wa hown hgr; have AI : Hid (IntsAt wa va SX) := Lib.hid (own_ints (by simpa using hown) rfl (by rw [HMX.out]; have := LX.out; omega)); have GA := Lib.hid (hgr wp (Grows.alloc wp _) (Nat.le_refl _)); clear hown hgr)
              go_loopw [13, 14] (fun o i wr => ∃ k : Nat, i = iv k ∧ k ≤ my ∧ IntsAt wr o (insertsF ltI SX (SY.take k)) ∧ Grows wp wr) (fun _ i _ => 61 - (intOf i).toNat)
              case atStart => exact ⟨0, rfl, Nat.zero_le _, AI.out, GA.out⟩
              case round =>
                obtain ⟨k2, rfl, hk2, hi, hg⟩ := hrel
                have G := Lib.hid hg
                have I := Lib.hid hi
                clear hg hi AI GA
                by_cases hlt : k2 < my
                · have h60 : k2 < 60 := by have := LY.out; omega
                  obtain ⟨b, off, rfl, hb, c1⟩ := (YI.out wr G.out).at_ (i := k2) (by rw [HMY.out]; exact hlt)
                  have HS' := Lib.hid (HS.out k2 hlt)
                  have HP := Lib.hid (put_ints u13 _ (SY.getD k2 0) wr I.out (by have := LA.out k2; omega) (UA.out k2))
                  rw [← HS'.out] at HP
                  generalize SY.getD k2 0 = x at c1 HP
                  clear HS' I
                  go_wp2_with fail
                  refine HP.out.mono ?_
                  rintro _ w1 ⟨u, rfl, hu, hg⟩
                  have U := Lib.hid hu
                  have G1 := Lib.hid (G.out.trans hg)
                  clear hu hg HP c1
                  go_wp2
                  refine ⟨⟨k2 + 1, by simp, by omega, U.out, G1.out⟩, by simp only [intOf]; omega⟩
                · have AI : Hid (IntsAt wr u13 (insertsF ltI SX SY)) := Lib.hid (by have := I.out; rwa [List.take_of_length_le (by rw [HMY.out]; omega)] at this)
                  clear I HS UA LA
                  go_wp2_with fail
                  refine (CF.out _ G.out).mono ?_
                  rintro _ w1 ⟨rfl, hg⟩
                  have G1 := Lib.hid (G.out.trans hg)
                  have A1 := Lib.hid (AI.out.grows hg)
                  clear hg CF G AI
                  go_wp2_with fail
                  refine (CR.out _ G1.out).mono ?_
                  rintro _ w2 ⟨rfl, hg⟩
                  have G2 := Lib.hid (G1.out.trans hg)
                  have A2 := Lib.hid (A1.out.grows hg)
                  clear hg CR G1 A1
                  go_wp2_with fail
                  refine (CS.out _ G2.out).mono ?_
                  rintro _ w3 ⟨rfl, hg⟩
                  have G3 := Lib.hid (G2.out.trans hg)
                  have A3 := Lib.hid (A2.out.grows hg)
                  clear hg CS G2 A2
                  go_wp2_with fail
                  go_loopw [21, 22] (fun e i wr => ∃ k c : Nat, i = iv k ∧ e = iv c ∧ k ≤ mx ∧ c = min k up - min k lo ∧ Grows w3 wr) (fun _ i _ => 61 - (intOf i).toNat)
                  case atStart => exact ⟨0, 0, rfl, rfl, Nat.zero_le _, by simp, Grows.refl _⟩
                  case round =>
                    obtain ⟨k3, c, rfl, rfl, hk3, hcc, hg⟩ := hrel
                    have G := Lib.hid hg
                    have hc60 : c ≤ 60 := by have := LX.out; omega
                    have HCC := Lib.hid hcc
                    clear hg hcc
                    by_cases hlt3 : k3 < mx
                    · have h60 : k3 < 60 := by have := LX.out; omega
                      obtain ⟨b, off, rfl, hb, c1⟩ := (XI.out wr (G3.out.trans G.out)).at_ (i := k3) (by rw [HMX.out]; exact hlt3)
                      have b1 := B1.out k3 hlt3
                      generalize SX.getD k3 0 = x at c1 b1
                      by_cases hxp : x = p
                      · have h1 := b1.1 hxp
                        subst hxp
                        clear b1
                        go_wp2
                        refine ⟨⟨k3 + 1, c + 1, by simp, by simp, by omega, by have := HCC.out; omega, G.out⟩, by simp only [intOf]; omega⟩
                      · have h1 : ¬ (lo ≤ k3 ∧ k3 < up) := fun h => hxp (b1.2 h)
                        have bx : (x == p) = false := by rw [beq_eq_false_iff_ne]; exact hxp
                        clear b1
                        go_wp2
                        refine ⟨⟨k3 + 1, c, by simp, rfl, by omega, by have := HCC.out; omega, G.out⟩, by simp only [intOf]; omega⟩
                    · have hce : (lo : Int) + (c : Int) = (up : Int) := by have := HCC.out; omega
                      have HCE := Lib.hid hce
                      have h60 : lo ≤ 60 ∧ up ≤ 60 := by have := LX.out; omega
                      have G4 := Lib.hid (G3.out.trans G.out)
                      have A4 := Lib.hid (A3.out.grows G.out)
                      clear HCC G A3 B1 hce
                      go_wp2_with fail
                      refine (kn_any _).mono ?_
                      rintro _ w4 ⟨rfl, hg⟩
                      have G5 := Lib.hid (G4.out.trans hg)
                      have A5 := Lib.hid (A4.out.grows hg)
                      clear hg G4 A4
                      go_wp2_with fail
                      refine (CM.out _ G5.out).mono ?_
                      rintro _ w5 ⟨vm, rfl, hvm, hg⟩
                      have M6 : Hid (IntsAt w5 vm (insertsF ltI SX SY)) := Lib.hid (own_ints hvm rfl (by rw [insertsF_length, HMX.out, HMY.out]; have := LX.out; have := LY.out; omega))
                      have G6 := Lib.hid (G5.out.trans hg)
                      have A6 := Lib.hid (A5.out.grows hg)
                      clear hg G5 A5 CM hvm
                      go_wp2_with fail
                      refine (Ints_any _ _ _ _ _ M6.out A6.out).mono ?_
                      rw [show decide (insertsF ltI SX SY = insertsF ltI SX SY) = true by simp]
                      rintro _ w6 ⟨rfl, hg⟩
                      have G7 := Lib.hid (G6.out.trans hg)
                      clear hg G6 A6 M6
                      have hce := HCE.out
                      have blo : ((lo : Int) == (lo : Int)) = true := by simp
                      have bup : ((up : Int) == (up : Int)) = true := by simp
                      have bhs : (hs == hs) = true := by simp
                      go_wp2_with fail
                      refine (CC.out _ G7.out).mono ?_
                      rintro _ w7 ⟨rfl, hg⟩
                      have G8 := Lib.hid (G7.out.trans hg)
                      clear hg G7 CC
                      go_wp2_with fail
                      refine (CA.out _ G8.out).mono ?_
                      rintro _ w8 ⟨rfl, hg⟩
                      have G9 := Lib.hid (G8.out.trans hg)
                      clear hg G8 CA
                      cases apz with
                      | true =>
                        go_wp2
                        go_ret
                        exact ⟨rfl, GP.out.trans G9.out⟩
                      | false =>
                        go_wp2
                        go_ret
                        exact ⟨rfl, GP.out.trans G9.out⟩
            · 
              obtain ⟨wp, rfl⟩ : ∃ wp : World, wp = wr := ⟨_, rfl⟩
              have LY : Hid ((insertsF ltI [] LB).length ≤ 60) := Lib.hid (by rw [ins_len, HLB.out]; omega)
              have UY := Lib.hid (ins_up LB)
              generalize insertsF ltI [] LB = SY at I' LY UY
              have XI := Lib.hid (fun w' (hg : Grows wp w') => XI.out.grows (G.out.trans hg))
              have YI := Lib.hid (fun w' (hg : Grows wp w') => I'.out.grows hg)
              have GP := Lib.hid (G0.out.trans G.out)
              clear I' G G0
              have EQ : Hid (mergeF ltI SX SY = insertsF ltI SX SY) := Lib.hid (merge_ins UY.out)
              have UA : Hid (∀ k, Up (insertsF ltI SX (SY.take k))) := Lib.hid fun k => (Rises.inserts weakI _ SX UX.out.rises).up
              have LA : Hid (∀ k, (insertsF ltI SX (SY.take k)).length ≤ 1000) := Lib.hid fun k => by rw [insertsF_length, List.length_take]; have := LX.out; have := LY.out; omega
              have HS : Hid (∀ k, k < SY.length → insertsF ltI SX (SY.take (k + 1)) = mergeF ltI (insertsF ltI SX (SY.take k)) [SY.getD k 0]) := Lib.hid fun k hk => by
                rw [List.take_succ_eq_append_getElem hk, insertsF_snoc, List.getD_eq_getElem?_getD, List.getElem?_eq_getElem hk]; rfl
              have CM := Lib.hid (fun w' (hg : Grows wp w') => merge_any _ _ SX SY w' (XI.out w' hg) (YI.out w' hg) (by have := LX.out; omega) (by have := LY.out; omega))
              have CF := Lib.hid (fun w' (hg : Grows wp w') => find_any _ SX p w' (XI.out w' hg) (by have := LX.out; omega) UX.out)
              have CR := Lib.hid (fun w' (hg : Grows wp w') => rfind_any _ SX p w' (XI.out w' hg))
              have CS := Lib.hid (fun w' (hg : Grows wp w') => strips_any _ SX p w' (XI.out w' hg) (by have := LX.out; omega) UX.out)
              have CC := Lib.hid (fun w' (hg : Grows wp w') => common_any _ SX p q w' (XI.out w' hg) (by have := LX.out; omega) UX.out)
              have CA := Lib.hid (fun w' (hg : Grows wp w') => rapart_any _ SX p q w' (XI.out w' hg))
              rw [EQ.out] at CM
              have EC := Lib.hid (common_apart UX.out p q)
              rw [EC.out] at CC
              generalize SX.any (betB p q) = apz at CC CA
              have F1 := low_upp (Int.le_refl p) SX
              have F2 := upp_le p SX
              have B1 : Hid (∀ i, i < SX.length → (SX.getD i 0 = p ↔ lowF p SX ≤ i ∧ i < uppF p SX)) := Lib.hid fun i hi => by
                constructor
                · intro h
                  refine ⟨?_, upp_gt UX.out hi (by omega)⟩
                  by_cases h2 : lowF p SX ≤ i
                  · exact h2
                  · have := low_before (n := p) (l := SX) (i := i) (by omega); omega
                · rintro ⟨h1, h2⟩
                  have h3 := low_behind UX.out h1 hi
                  have h4 := upp_before h2
                  omega
              generalize lowF p SX = lo at F1 CF CR CS B1
              generalize uppF p SX = up at F1 F2 CS B1
              generalize hasF p SX = hs at CF CR
              obtain ⟨ax, cx, rfl, hcx, hzx⟩ := (XI.out wp (Grows.refl _)).shape
              obtain ⟨ay, cy, rfl, hcy, hzy⟩ := (YI.out wp (Grows.refl _)).shape
              generalize hmx : SX.length = mx at XI LX F2 B1 CM CF CR CS CC CA hcx ⊢
              generalize hmy : SY.length = my at YI LY HS CM hcy ⊢
              have HMX := Lib.hid hmx
              have HMY := Lib.hid hmy
              clear hmx hmy EC UX UY hzx hzy
              go_wp2_with (at_builtin; refine append_ints rfl _ _ 24 rfl wp.heap.size 3 i0 (.int .i64 0) 8 Try.underlying24 hi0 hi1 hi2 hi3 rfl (.slice (some ⟨wp.heap.size, 0, none⟩) 0 0) 0 [] rfl (own_empty (by decide)) SX _ rfl (XI.out _ (Grows.alloc wp _)) (by rw [HMX.out]; have := LX.out; unfold maxLen; omega) (by rw [HMX.out]; have := LX.out; omega) (by simp only [World.size_alloc]; omega) ?_; intro va wa hown hgr; have AI : Hid (IntsAt wa va SX) := Lib.hid (own_ints (by simpa using hown) rfl (by rw [HMX.out]; have := LX.out; omega)); have GA := Lib.hid (hgr wp (Grows.alloc wp _) (Nat.le_refl _)); clear hown hgr)
              go_loopw [13, 14] (fun o i wr => ∃ k : Nat, i = iv k ∧ k ≤ my ∧ IntsAt wr o (insertsF ltI SX (SY.take k)) ∧ Grows wp wr) (fun _ i _ => 61 - (intOf i).toNat)
              case atStart => exact ⟨0, rfl, Nat.zero_le _, AI.out, GA.out⟩
              case round =>
                obtain ⟨k2, rfl, hk2, hi, hg⟩ := hrel
                have G := Lib.hid hg
                have I := Lib.hid hi
                clear hg hi AI GA
                by_cases hlt : k2 < my
                · have h60 : k2 < 60 := by have := LY.out; omega
                  obtain ⟨b, off, rfl, hb, c1⟩ := (YI.out wr G.out).at_ (i := k2) (by rw [HMY.out]; exact hlt)
                  have HS' := Lib.hid (HS.out k2 hlt)
                  have HP := Lib.hid (put_ints u13 _ (SY.getD k2 0) wr I.out (by have := LA.out k2; omega) (UA.out k2))
                  rw [← HS'.out] at HP
                  generalize SY.getD k2 0 = x at c1 HP
                  clear HS' I
                  go_wp2_with fail
                  refine HP.out.mono ?_
                  rintro _ w1 ⟨u, rfl, hu, hg⟩
                  have U := Lib.hid hu
                  have G1 := Lib.hid (G.out.trans hg)
                  clear hu hg HP c1
                  go_wp2
                  refine ⟨⟨k2 + 1, by simp, by omega, U.out, G1.out⟩, by simp only [intOf]; omega⟩
                · have AI : Hid (IntsAt wr u13 (insertsF ltI SX SY)) := Lib.hid (by have := I.out; rwa [List.take_of_length_le (by rw [HMY.out]; omega)] at this)
                  clear I HS UA LA
                  go_wp2_with fail
                  refine (CF.out _ G.out).mono ?_
                  rintro _ w1 ⟨rfl, hg⟩
                  have G1 := Lib.hid (G.out.trans hg)
                  have A1 := Lib.hid (AI.out.grows hg)
                  clear hg CF G AI
                  go_wp2_with fail
                  refine (CR.out _ G1.out).mono ?_
                  rintro _ w2 ⟨rfl, hg⟩
                  have G2 := Lib.hid (G1.out.trans hg)
                  have A2 := Lib.hid (A1.out.grows hg)
                  clear hg CR G1 A1
                  go_wp2_with fail
                  refine (CS.out _ G2.out).mono ?_
                  rintro _ w3 ⟨rfl, hg⟩
                  have G3 := Lib.hid (G2.out.trans hg)
                  have A3 := Lib.hid (A2.out.grows hg)
                  clear hg CS G2 A2
                  go_wp2_with fail
                  go_loopw [21, 22] (fun e i wr => ∃ k c : Nat, i = iv k ∧ e = iv c ∧ k ≤ mx ∧ c = min k up - min k lo ∧ Grows w3 wr) (fun _ i _ => 61 - (intOf i).toNat)
                  case atStart => exact ⟨0, 0, rfl, rfl, Nat.zero_le _, by simp, Grows.refl _⟩
                  case round =>
                    obtain ⟨k3, c, rfl, rfl, hk3, hcc, hg⟩ := hrel
                    have G := Lib.hid hg
                    have hc60 : c ≤ 60 := by have := LX.out; omega
                    have HCC := Lib.hid hcc
                    clear hg hcc
                    by_cases hlt3 : k3 < mx
                    · have h60 : k3 < 60 := by have := LX.out; omega
                      obtain ⟨b, off, rfl, hb, c1⟩ := (XI.out wr (G3.out.trans G.out)).at_ (i := k3) (by rw [HMX.out]; exact hlt3)
                      have b1 := B1.out k3 hlt3
                      generalize SX.getD k3 0 = x at c1 b1
                      by_cases hxp : x = p
                      · have h1 := b1.1 hxp
                        subst hxp
                        clear b1
                        go_wp2
                        refine ⟨⟨k3 + 1, c + 1, by simp, by simp, by omega, by have := HCC.out; omega, G.out⟩, by simp only [intOf]; omega⟩
                      · have h1 : ¬ (lo ≤ k3 ∧ k3 < up) := fun h => hxp (b1.2 h)
                        have bx : (x == p) = false := by rw [beq_eq_false_iff_ne]; exact hxp
                        clear b1
                        go_wp2
                        refine ⟨⟨k3 + 1, c, by simp, rfl, by omega, by have := HCC.out; omega, G.out⟩, by simp only [intOf]; omega⟩
                    · have hce : (lo : Int) + (c : Int) = (up : Int) := by have := HCC.out; omega
                      have HCE := Lib.hid hce
                      have h60 : lo ≤ 60 ∧ up ≤ 60 := by have := LX.out; omega
                      have G4 := Lib.hid (G3.out.trans G.out)
                      have A4 := Lib.hid (A3.out.grows G.out)
                      clear HCC G A3 B1 hce
                      go_wp2_with fail
                      refine (kn_any _).mono ?_
                      rintro _ w4 ⟨rfl, hg⟩
                      have G5 := Lib.hid (G4.out.trans hg)
                      have A5 := Lib.hid (A4.out.grows hg)
                      clear hg G4 A4
                      go_wp2_with fail
                      refine (CM.out _ G5.out).mono ?_
                      rintro _ w5 ⟨vm, rfl, hvm, hg⟩
                      have M6 : Hid (IntsAt w5 vm (insertsF ltI SX SY)) := Lib.hid (own_ints hvm rfl (by rw [insertsF_length, HMX.out, HMY.out]; have := LX.out; have := LY.out; omega))
                      have G6 := Lib.hid (G5.out.trans hg)
                      have A6 := Lib.hid (A5.out.grows hg)
                      clear hg G5 A5 CM hvm
                      go_wp2_with fail
                      refine (Ints_any _ _ _ _ _ M6.out A6.out).mono ?_
                      rw [show decide (insertsF ltI SX SY = insertsF ltI SX SY) = true by simp]
                      rintro _ w6 ⟨rfl, hg⟩
                      have G7 := Lib.hid (G6.out.trans hg)
                      clear hg G6 A6 M6
                      have hce := HCE.out
                      have blo : ((lo : Int) == (lo : Int)) = true := by simp
                      have bup : ((up : Int) == (up : Int)) = true := by simp
                      have bhs : (hs == hs) = true := by simp
                      go_wp2_with fail
                      refine (CC.out _ G7.out).mono ?_
                      rintro _ w7 ⟨rfl, hg⟩
                      have G8 := Lib.hid (G7.out.trans hg)
                      clear hg G7 CC
                      go_wp2_with fail
                      refine (CA.out _ G8.out).mono ?_
                      rintro _ w8 ⟨rfl, hg⟩
                      have G9 := Lib.hid (G8.out.trans hg)
                      clear hg G8 CA
                      cases apz with
                      | true =>
                        go_wp2
                        go_ret
                        exact ⟨rfl, GP.out.trans G9.out⟩
                      | false =>
                        go_wp2
                        go_ret
                        exact ⟨rfl, GP.out.trans G9.out⟩
      · 
        obtain ⟨wo, rfl⟩ : ∃ wo : World, wo = wr := ⟨_, rfl⟩
        have LX : Hid ((insertsF ltI [] LA0).length ≤ 60) := Lib.hid (by rw [ins_len, HLA.out]; omega)
        have UX := Lib.hid (ins_up LA0)
        generalize insertsF ltI [] LA0 = SX at I' LX UX
        have XI := I'
        have G0 := G
        clear I' G
        go_wp2
        go_loopw [10, 12] (fun o i wr => ∃ k : Nat, i = iv k ∧ k ≤ min nb 60 ∧ IntsAt wr o (insertsF ltI [] (LB.take k)) ∧ Grows wo wr) (fun _ i _ => 61 - (intOf i).toNat)
        case atStart => exact ⟨0, rfl, Nat.zero_le _, ints_nil _, Grows.refl _⟩
        case round =>
          obtain ⟨k, rfl, hk, hi, hg⟩ := hrel
          have G := Lib.hid hg
          have I := Lib.hid hi
          clear hg hi
          by_cases hlt : k < nb ∧ k < 60
          · obtain ⟨h1, h2⟩ := hlt
            obtain ⟨b, off, rfl, hb, hx⟩ := hcB.out k h1
            have c1 : wr.cell? ⟨b, off + k, none⟩ = some (iv (VB k)) := by rw [Below.cell (G0.out.trans G.out) (p := ⟨b, off + k, none⟩) hb]; exact hx
            have HT' := Lib.hid (HTB.out k (by omega))
            have HP := Lib.hid (put_ints u10 _ (VB k) wr I.out (by rw [ins_len, List.length_take]; omega) (ins_up _))
            rw [← HT'.out] at HP
            generalize VB k = x at c1 HP
            clear hx HT' I
            go_wp2_with fail
            refine HP.out.mono ?_
            rintro _ w1 ⟨u, rfl, hu, hg⟩
            have U := Lib.hid hu
            have G1 := Lib.hid (G.out.trans hg)
            clear hu hg HP c1
            go_wp2
            refine ⟨⟨k + 1, by simp, by omega, U.out, G1.out⟩, by simp only [intOf]; omega⟩
          · have I' : Hid (IntsAt wr u10 (insertsF ltI [] LB)) := Lib.hid (by have := I.out; rwa [List.take_of_length_le (by rw [HLB.out]; omega)] at this)
            have hcond : (k < nb ∧ ¬ k < 60) ∨ ¬ k < nb := by omega
            clear hlt hk I HTB hcB
            rcases hcond with ⟨hkn, hk6⟩ | hkn
            · 
              obtain ⟨wp, rfl⟩ : ∃ wp : World, wp = wr := ⟨_, rfl⟩
              have LY : Hid ((insertsF ltI [] LB).length ≤ 60) := Lib.hid (by rw [ins_len, HLB.out]; omega)
              have UY := Lib.hid (ins_up LB)
              generalize insertsF ltI [] LB = SY at I' LY UY
              have XI := Lib.hid (fun w' (hg : Grows wp w') => XI.out.grows (G.out.trans hg))
              have YI := Lib.hid (fun w' (hg : Grows wp w') => I'.out.grows hg)
              have GP := Lib.hid (G0.out.trans G.out)
              clear I' G G0
              have EQ : Hid (mergeF ltI SX SY = insertsF ltI SX SY) := Lib.hid (merge_ins UY.out)
              have UA : Hid (∀ k, Up (insertsF ltI SX (SY.take k))) := Lib.hid fun k => (Rises.inserts weakI _ SX UX.out.rises).up
              have LA : Hid (∀ k, (insertsF ltI SX (SY.take k)).length ≤ 1000) := Lib.hid fun k => by rw [insertsF_length, List.length_take]; have := LX.out; have := LY.out; omega
              have HS : Hid (∀ k, k < SY.length → insertsF ltI SX (SY.take (k + 1)) = mergeF ltI (insertsF ltI SX (SY.take k)) [SY.getD k 0]) := Lib.hid fun k hk => by
                rw [List.take_succ_eq_append_getElem hk, insertsF_snoc, List.getD_eq_getElem?_getD, List.getElem?_eq_getElem hk]; rfl
              have CM := Lib.hid (fun w' (hg : Grows wp w') => merge_any _ _ SX SY w' (XI.out w' hg) (YI.out w' hg) (by have := LX.out; omega) (by have := LY.out; omega))
              have CF := Lib.hid (fun w' (hg : Grows wp w') => find_any _ SX p w' (XI.out w' hg) (by have := LX.out; omega) UX.out)
              have CR := Lib.hid (fun w' (hg : Grows wp w') => rfind_any _ SX p w' (XI.out w' hg))
              have CS := Lib.hid (fun w' (hg : Grows wp w') => strips_any _ SX p w' (XI.out w' hg) (by have := LX.out; omega) UX.out)
              have CC := Lib.hid (fun w' (hg : Grows wp w') => common_any _ SX p q w' (XI.out w' hg) (by have := LX.out; omega) UX.out)
              have CA := Lib.hid (fun w' (hg : Grows wp w') => rapart_any _ SX p q w' (XI.out w' hg))
              rw [EQ.out] at CM
              have EC := Lib.hid (common_apart UX.out p q)
              rw [EC.out] at CC
              generalize SX.any (betB p q) = apz at CC CA
              have F1 := low_upp (Int.le_refl p) SX
              have F2 := upp_le p SX
              have B1 : Hid (∀ i, i < SX.length → (SX.getD i 0 = p ↔ lowF p SX ≤ i ∧ i < uppF p SX)) := Lib.hid fun i hi => by
                constructor
                · intro h
                  refine ⟨?_, upp_gt UX.out hi (by omega)⟩
                  by_cases h2 : lowF p SX ≤ i
                  · exact h2
                  · have := low_before (n := p) (l := SX) (i := i) (by omega); omega
                · rintro ⟨h1, h2⟩
                  have h3 := low_behind UX.out h1 hi
                  have h4 := upp_before h2
                  omega
              generalize lowF p SX = lo at F1 CF CR CS B1
              generalize uppF p SX = up at F1 F2 CS B1
              generalize hasF p SX = hs at CF CR
              obtain ⟨ax, cx, rfl, hcx, hzx⟩ := (XI.out wp (Grows.refl _)).shape
              obtain ⟨ay, cy, rfl, hcy, hzy⟩ := (YI.out wp (Grows.refl _)).shape
              generalize hmx : SX.length = mx at XI LX F2 B1 CM CF CR CS CC CA hcx ⊢
              generalize hmy : SY.length = my at YI LY HS CM hcy ⊢
              have HMX := Lib.hid hmx
              have HMY := Lib.hid hmy
              clear hmx hmy EC UX UY hzx hzy
              go_wp2_with (at_builtin; refine append_ints rfl _ _ 24 rfl wp.heap.size 3 i0 (.int .i64 0) 8 Try.underlying24 hi0 hi1 hi2 hi3 rfl (.slice (some ⟨wp.heap.size, 0, none⟩) 0 0) 0 [] rfl (own_empty (by decide)) SX _ rfl (XI.out _ (Grows.alloc wp _)) (by rw [HMX.out]; have := LX.out; unfold maxLen; omega) (by rw [HMX.out]; have := LX.out; omega) (by simp only [World.size_alloc]; omega) ?_; intro va wa hown hgr; have AI : Hid (IntsAt wa va SX) := Lib.hid (own_ints (by simpa using hown) rfl (by rw [HMX.out]; have := LX.out; omega)); have GA := Lib.hid (hgr wp (Grows.alloc wp _) (Nat.le_refl _)); clear hown hgr)
              go_loopw [13, 14] (fun o i wr => ∃ k : Nat, i = iv k ∧ k ≤ my ∧ IntsAt wr o (insertsF ltI SX (SY.take k)) ∧ Grows wp wr) (fun _ i _ => 61 - (intOf i).toNat)
              case atStart => exact ⟨0, rfl, Nat.zero_le _, AI.out, GA.out⟩
              case round =>
                obtain ⟨k2, rfl, hk2, hi, hg⟩ := hrel
                have G := Lib.hid hg
                have I := Lib.hid hi
                clear hg hi AI GA
                by_cases hlt : k2 < my
                · have h60 : k2 < 60 := by have := LY.out; omega
                  obtain ⟨b, off, rfl, hb, c1⟩ := (YI.out wr G.out).at_ (i := k2) (by rw [HMY.out]; exact hlt)
                  have HS' := Lib.hid (HS.out k2 hlt)
                  have HP := Lib.hid (put_ints u13 _ (SY.getD k2 0) wr I.out (by have := LA.out k2; omega) (UA.out k2))
                  rw [← HS'.out] at HP
                  generalize SY.getD k2 0 = x at c1 HP
                  clear HS' I
                  go_wp2_with fail
                  refine HP.out.mono ?_
                  rintro _ w1 ⟨u, rfl, hu, hg⟩
                  have U := Lib.hid hu
                  have G1 := Lib.hid (G.out.trans hg)
                  clear hu hg HP c1
                  go_wp2
                  refine ⟨⟨k2 + 1, by simp, by omega, U.out, G1.out⟩, by simp only [intOf]; omega⟩
                · have AI : Hid (IntsAt wr u13 (insertsF ltI SX SY)) := Lib.hid (by have := I.out; rwa [List.take_of_length_le (by rw [HMY.out]; omega)] at this)
                  clear I HS UA LA
                  go_wp2_with fail
                  refine (CF.out _ G.out).mono ?_
                  rintro _ w1 ⟨rfl, hg⟩
                  have G1 := Lib.hid (G.out.trans hg)
                  have A1 := Lib.hid (AI.out.grows hg)
                  clear hg CF G AI
                  go_wp2_with fail
                  refine (CR.out _ G1.out).mono ?_
                  rintro _ w2 ⟨rfl, hg⟩
                  have G2 := Lib.hid (G1.out.trans hg)
                  have A2 := Lib.hid (A1.out.grows hg)
                  clear hg CR G1 A1
                  go_wp2_with fail
                  refine (CS.out _ G2.out).mono ?_
                  rintro _ w3 ⟨rfl, hg⟩
                  have G3 := Lib.hid (G2.out.trans hg)
                  have A3 := Lib.hid (A2.out.grows hg)
                  clear hg CS G2 A2
                  go_wp2_with fail
                  go_loopw [21, 22] (fun e i wr => ∃ k c : Nat, i = iv k ∧ e = iv c ∧ k ≤ mx ∧ c = min k up - min k lo ∧ Grows w3 wr) (fun _ i _ => 61 - (intOf i).toNat)
                  case atStart => exact ⟨0, 0, rfl, rfl, Nat.zero_le _, by simp, Grows.refl _⟩
                  case round =>
                    obtain ⟨k3, c, rfl, rfl, hk3, hcc, hg⟩ := hrel
                    have G := Lib.hid hg
                    have hc60 : c ≤ 60 := by have := LX.out; omega
                    have HCC := Lib.hid hcc
                    clear hg hcc
                    by_cases hlt3 : k3 < mx
                    · have h60 : k3 < 60 := by have := LX.out; omega
                      obtain ⟨b, off, rfl, hb, c1⟩ := (XI.out wr (G3.out.trans G.out)).at_ (i := k3) (by rw [HMX.out]; exact hlt3)
                      have b1 := B1.out k3 hlt3
                      generalize SX.getD k3 0 = x at c1 b1
                      by_cases hxp : x = p
                      · have h1 := b1.1 hxp
                        subst hxp
                        clear b1
                        go_wp2
                        refine ⟨⟨k3 + 1, c + 1, by simp, by simp, by omega, by have := HCC.out; omega, G.out⟩, by simp only [intOf]; omega⟩
                      · have h1 : ¬ (lo ≤ k3 ∧ k3 < up) := fun h => hxp (b1.2 h)
                        have bx : (x == p) = false := by rw [beq_eq_false_iff_ne]; exact hxp
                        clear b1
                        go_wp2
                        refine ⟨⟨k3 + 1, c, by simp, rfl, by omega, by have := HCC.out; omega, G.out⟩, by simp only [intOf]; omega⟩
                    · have hce : (lo : Int) + (c : Int) = (up : Int) := by have := HCC.out; omega
                      have HCE := Lib.hid hce
                      have h60 : lo ≤ 60 ∧ up ≤ 60 := by have := LX.out; omega
                      have G4 := Lib.hid (G3.out.trans G.out)
                      have A4 := Lib.hid (A3.out.grows G.out)
                      clear HCC G A3 B1 hce
                      go_wp2_with fail
                      refine (kn_any _).mono ?_
                      rintro _ w4 ⟨rfl, hg⟩
                      have G5 := Lib.hid (G4.out.trans hg)
                      have A5 := Lib.hid (A4.out.grows hg)
                      clear hg G4 A4
                      go_wp2_with fail
                      refine (CM.out _ G5.out).mono ?_
                      rintro _ w5 ⟨vm, rfl, hvm, hg⟩
                      have M6 : Hid (IntsAt w5 vm (insertsF ltI SX SY)) := Lib.hid (own_ints hvm rfl (by rw [insertsF_length, HMX.out, HMY.out]; have := LX.out; have := LY.out; omega))
                      have G6 := Lib.hid (G5.out.trans hg)
                      have A6 := Lib.hid (A5.out.grows hg)
                      clear hg G5 A5 CM hvm
                      go_wp2_with fail
                      refine (Ints_any _ _ _ _ _ M6.out A6.out).mono ?_
                      rw [show decide (insertsF ltI SX SY = insertsF ltI SX SY) = true by simp]
                      rintro _ w6 ⟨rfl, hg⟩
                      have G7 := Lib.hid (G6.out.trans hg)
                      clear hg G6 A6 M6
                      have hce := HCE.out
                      have blo : ((lo : Int) == (lo : Int)) = true := by simp
                      have bup : ((up : Int) == (up : Int)) = true := by simp
                      have bhs : (hs == hs) = true := by simp
                      go_wp2_with fail
                      refine (CC.out _ G7.out).mono ?_
                      rintro _ w7 ⟨rfl, hg⟩
                      have G8 := Lib.hid (G7.out.trans hg)
                      clear hg G7 CC
                      go_wp2_with fail
                      refine (CA.out _ G8.out).mono ?_
                      rintro _ w8 ⟨rfl, hg⟩
                      have G9 := Lib.hid (G8.out.trans hg)
                      clear hg G8 CA
                      cases apz with
                      | true =>
                        go_wp2
                        go_ret
                        exact ⟨rfl, GP.out.trans G9.out⟩
                      | false =>
                        go_wp2
                        go_ret
                        exact ⟨rfl, GP.out.trans G9.out⟩
            · 
              obtain ⟨wp, rfl⟩ : ∃ wp : World, wp = wr := ⟨_, rfl⟩
              have LY : Hid ((insertsF ltI [] LB).length ≤ 60) := Lib.hid (by rw [ins_len, HLB.out]; omega)
              have UY := Lib.hid (ins_up LB)
              generalize insertsF ltI [] LB = SY at I' LY UY
              have XI := Lib.hid (fun w' (hg : Grows wp w') => XI.out.grows (G.out.trans hg))
              have YI := Lib.hid (fun w' (hg : Grows wp w') => I'.out.grows hg)
              have GP := Lib.hid (G0.out.trans G.out)
              clear I' G G0
              have EQ : Hid (mergeF ltI SX SY = insertsF ltI SX SY) := Lib.hid (merge_ins UY.out)
              have UA : Hid (∀ k, Up (insertsF ltI SX (SY.take k))) := Lib.hid fun k => (Rises.inserts weakI _ SX UX.out.rises).up
              have LA : Hid (∀ k, (insertsF ltI SX (SY.take k)).length ≤ 1000) := Lib.hid fun k => by rw [insertsF_length, List.length_take]; have := LX.out; have := LY.out; omega
              have HS : Hid (∀ k, k < SY.length → insertsF ltI SX (SY.take (k + 1)) = mergeF ltI (insertsF ltI SX (SY.take k)) [SY.getD k 0]) := Lib.hid fun k hk => by
                rw [List.take_succ_eq_append_getElem hk, insertsF_snoc, List.getD_eq_getElem?_getD, List.getElem?_eq_getElem hk]; rfl
              have CM := Lib.hid (fun w' (hg : Grows wp w') => merge_any _ _ SX SY w' (XI.out w' hg) (YI.out w' hg) (by have := LX.out; omega) (by have := LY.out; omega))
              have CF := Lib.hid (fun w' (hg : Grows wp w') => find_any _ SX p w' (XI.out w' hg) (by have := LX.out; omega) UX.out)
              have CR := Lib.hid (fun w' (hg : Grows wp w') => rfind_any _ SX p w' (XI.out w' hg))
              have CS := Lib.hid (fun w' (hg : Grows wp w') => strips_any _ SX p w' (XI.out w' hg) (by have := LX.out; omega) UX.out)
              have CC := Lib.hid (fun w' (hg : Grows wp w') => common_any _ SX p q w' (XI.out w' hg) (by have := LX.out; omega) UX.out)
              have CA := Lib.hid (fun w' (hg : Grows wp w') => rapart_any _ SX p q w' (XI.out w' hg))
              rw [EQ.out] at CM
              have EC := Lib.hid (common_apart UX.out p q)
              rw [EC.out] at CC
              generalize SX.any (betB p q) = apz at CC CA
              have F1 := low_upp (Int.le_refl p) SX
              have F2 := upp_le p SX
              have B1 : Hid (∀ i, i < SX.length → (SX.getD i 0 = p ↔ lowF p SX ≤ i ∧ i < uppF p SX)) := Lib.hid fun i hi => by
                constructor
                · intro h
                  refine ⟨?_, upp_gt UX.out hi (by omega)⟩
                  by_cases h2 : lowF p SX ≤ i
                  · exact h2
                  · have := low_before (n := p) (l := SX) (i := i) (by omega); omega
                · rintro ⟨h1, h2⟩
                  have h3 := low_behind UX.out h1 hi
                  have h4 := upp_before h2
                  omega
              generalize lowF p SX = lo at F1 CF CR CS B1
              generalize uppF p SX = up at F1 F2 CS B1
              generalize hasF p SX = hs at CF CR
              obtain ⟨ax, cx, rfl, hcx, hzx⟩ := (XI.out wp (Grows.refl _)).shape
              obtain ⟨ay, cy, rfl, hcy, hzy⟩ := (YI.out wp (Grows.refl _)).shape
              generalize hmx : SX.length = mx at XI LX F2 B1 CM CF CR CS CC CA hcx ⊢
              generalize hmy : SY.length = my at YI LY HS CM hcy ⊢
              have HMX := Lib.hid hmx
              have HMY := Lib.hid hmy
              clear hmx hmy EC UX UY hzx hzy
              go_wp2_with (at_builtin; refine append_ints rfl _ _ 24 rfl wp.heap.size 3 i0 (.int .i64 0) 8 Try.underlying24 hi0 hi1 hi2 hi3 rfl (.slice (some ⟨wp.heap.size, 0, none⟩) 0 0) 0 [] rfl (own_empty (by decide)) SX _ rfl (XI.out _ (Grows.alloc wp _)) (by rw [HMX.out]; have := LX.out; unfold maxLen; omega) (by rw [HMX.out]; have := LX.out; omega) (by simp only [World.size_alloc]; omega) ?_; intro va wa hown hgr; have AI : Hid (IntsAt wa va SX) := Lib.hid (own_ints (by simpa using hown) rfl (by rw [HMX.out]; have := LX.out; omega)); have GA := Lib.hid (hgr wp (Grows.alloc wp _) (Nat.le_refl _)); clear hown hgr)
              go_loopw [13, 14] (fun o i wr => ∃ k : Nat, i = iv k ∧ k ≤ my ∧ IntsAt wr o (insertsF ltI SX (SY.take k)) ∧ Grows wp wr) (fun _ i _ => 61 - (intOf i).toNat)
              case atStart => exact ⟨0, rfl, Nat.zero_le _, AI.out, GA.out⟩
              case round =>
                obtain ⟨k2, rfl, hk2, hi, hg⟩ := hrel
                have G := Lib.hid hg
                have I := Lib.hid hi
                clear hg hi AI GA
                by_cases hlt : k2 < my
                · have h60 : k2 < 60 := by have := LY.out; omega
                  obtain ⟨b, off, rfl, hb, c1⟩ := (YI.out wr G.out).at_ (i := k2) (by rw [HMY.out]; exact hlt)
                  have HS' := Lib.hid (HS.out k2 hlt)
                  have HP := Lib.hid (put_ints u13 _ (SY.getD k2 0) wr I.out (by have := LA.out k2; omega) (UA.out k2))
                  rw [← HS'.out] at HP
                  generalize SY.getD k2 0 = x at c1 HP
                  clear HS' I
                  go_wp2_with fail
                  refine HP.out.mono ?_
                  rintro _ w1 ⟨u, rfl, hu, hg⟩
                  have U := Lib.hid hu
                  have G1 := Lib.hid (G.out.trans hg)
                  clear hu hg HP c1
                  go_wp2
                  refine ⟨⟨k2 + 1, by simp, by omega, U.out, G1.out⟩, by simp only [intOf]; omega⟩
                · have AI : Hid (IntsAt wr u13 (insertsF ltI SX SY)) := Lib.hid (by have := I.out; rwa [List.take_of_length_le (by rw [HMY.out]; omega)] at this)
                  clear I HS UA LA
                  go_wp2_with fail
                  refine (CF.out _ G.out).mono ?_
                  rintro _ w1 ⟨rfl, hg⟩
                  have G1 := Lib.hid (G.out.trans hg)
                  have A1 := Lib.hid (AI.out.grows hg)
                  clear hg CF G AI
                  go_wp2_with fail
                  refine (CR.out _ G1.out).mono ?_
                  rintro _ w2 ⟨rfl, hg⟩
                  have G2 := Lib.hid (G1.out.trans hg)
                  have A2 := Lib.hid (A1.out.grows hg)
                  clear hg CR G1 A1
                  go_wp2_with fail
                  refine (CS.out _ G2.out).mono ?_
                  rintro _ w3 ⟨rfl, hg⟩
                  have G3 := Lib.hid (G2.out.trans hg)
                  have A3 := Lib.hid (A2.out.grows hg)
                  clear hg CS G2 A2
                  go_wp2_with fail
                  go_loopw [21, 22] (fun e i wr => ∃ k c : Nat, i = iv k ∧ e = iv c ∧ k ≤ mx ∧ c = min k up - min k lo ∧ Grows w3 wr) (fun _ i _ => 61 - (intOf i).toNat)
                  case atStart => exact ⟨0, 0, rfl, rfl, Nat.zero_le _, by simp, Grows.refl _⟩
                  case round =>
                    obtain ⟨k3, c, rfl, rfl, hk3, hcc, hg⟩ := hrel
                    have G := Lib.hid hg
                    have hc60 : c ≤ 60 := by have := LX.out; omega
                    have HCC := Lib.hid hcc
                    clear hg hcc
                    by_cases hlt3 : k3 < mx
                    · have h60 : k3 < 60 := by have := LX.out; omega
                      obtain ⟨b, off, rfl, hb, c1⟩ := (XI.out wr (G3.out.trans G.out)).at_ (i := k3) (by rw [HMX.out]; exact hlt3)
                      have b1 := B1.out k3 hlt3
                      generalize SX.getD k3 0 = x at c1 b1
                      by_cases hxp : x = p
                      · have h1 := b1.1 hxp
                        subst hxp
                        clear b1
                        go_wp2
                        refine ⟨⟨k3 + 1, c + 1, by simp, by simp, by omega, by have := HCC.out; omega, G.out⟩, by simp only [intOf]; omega⟩
                      · have h1 : ¬ (lo ≤ k3 ∧ k3 < up) := fun h => hxp (b1.2 h)
                        have bx : (x == p) = false := by rw [beq_eq_false_iff_ne]; exact hxp
                        clear b1
                        go_wp2
                        refine ⟨⟨k3 + 1, c, by simp, rfl, by omega, by have := HCC.out; omega, G.out⟩, by simp only [intOf]; omega⟩
                    · have hce : (lo : Int) + (c : Int) = (up : Int) := by have := HCC.out; omega
                      have HCE := Lib.hid hce
                      have h60 : lo ≤ 60 ∧ up ≤ 60 := by have := LX.out; omega
                      have G4 := Lib.hid (G3.out.trans G.out)
                      have A4 := Lib.hid (A3.out.grows G.out)
                      clear HCC G A3 B1 hce
                      go_wp2_with fail
                      refine (kn_any _).mono ?_
                      rintro _ w4 ⟨rfl, hg⟩
                      have G5 := Lib.hid (G4.out.trans hg)
                      have A5 := Lib.hid (A4.out.grows hg)
                      clear hg G4 A4
                      go_wp2_with fail
                      refine (CM.out _ G5.out).mono ?_
                      rintro _ w5 ⟨vm, rfl, hvm, hg⟩
                      have M6 : Hid (IntsAt w5 vm (insertsF ltI SX SY)) := Lib.hid (own_ints hvm rfl (by rw [insertsF_length, HMX.out, HMY.out]; have := LX.out; have := LY.out; omega))
                      have G6 := Lib.hid (G5.out.trans hg)
                      have A6 := Lib.hid (A5.out.grows hg)
                      clear hg G5 A5 CM hvm
                      go_wp2_with fail
                      refine (Ints_any _ _ _ _ _ M6.out A6.out).mono ?_
                      rw [show decide (insertsF ltI SX SY = insertsF ltI SX SY) = true by simp]
                      rintro _ w6 ⟨rfl, hg⟩
                      have G7 := Lib.hid (G6.out.trans hg)
                      clear hg G6 A6 M6
                      have hce := HCE.out
                      have blo : ((lo : Int) == (lo : Int)) = true := by simp
                      have bup : ((up : Int) == (up : Int)) = true := by simp
                      have bhs : (hs == hs) = true := by simp
                      go_wp2_with fail
                      refine (CC.out _ G7.out).mono ?_
                      rintro _ w7 ⟨rfl, hg⟩
                      have G8 := Lib.hid (G7.out.trans hg)
                      clear hg G7 CC
                      go_wp2_with fail
                      refine (CA.out _ G8.out).mono ?_
                      rintro _ w8 ⟨rfl, hg⟩
                      have G9 := Lib.hid (G8.out.trans hg)
                      clear hg G8 CA
                      cases apz with
                      | true =>
                        go_wp2
                        go_ret
                        exact ⟨rfl, GP.out.trans G9.out⟩
                      | false =>
                        go_wp2
                        go_ret
                        exact ⟨rfl, GP.out.trans G9.out⟩

end Go.Proofs.Ytigbojdnaeaojaa
