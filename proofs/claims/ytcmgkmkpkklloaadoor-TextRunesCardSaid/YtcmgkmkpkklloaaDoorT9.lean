/-
  Layer 9: names: the document's; a text's first bytes.
-/
import Derived.Test.YtcmgkmkpkklloaaDoorT8
import Derived.Deep.DeepCutAuto
namespace Go.Proofs.YtcmgkmkpkklloaaDoor
open Go.RowKit Go.Tab Go.WideShapes

def cutB (s : ByteArray) : ByteArray := s.extract 0 (min s.size 200)
theorem cutB_size (s : ByteArray) : (cutB s).size ≤ 200 := by unfold cutB; rw [ByteArray.size_extract]; omega
theorem lcut_any (s : ByteArray) (w : World) : Calls Tryd.prog 7 #[.string s] w (Ret (.string (cutB s)) w) := by
  have hm : min (s.size : Int) 200 = ((min s.size 200 : Nat) : Int) := by omega
  have HV : Hid (cutB s = s.extract 0 (min s.size 200)) := Lib.hid rfl
  generalize cutB s = c at HV ⊢
  obtain ⟨m, hmm⟩ : ∃ m, m = min s.size 200 := ⟨_, rfl⟩
  rw [← hmm] at hm HV
  have hms : m ≤ s.size := by omega
  have hmz : (m : Int) ≤ (s.size : Int) := by omega
  clear hmm
  go_enter Tryd.func7, Tryd.ntmps7
  go_wp2
  all_goals
    go_ret
    exact ⟨by rw [HV.out]; rfl, Grows.refl _⟩
theorem fsts_get {l : List (Nat × Nat)} {k : Nat} (hk : k < l.length) : (fsts l).getD k 0 = (l[k].1 : Int) := by
  unfold fsts
  rw [List.getD_eq_getElem?_getD, List.getElem?_map, List.getElem?_eq_getElem hk]; rfl

set_option maxRecDepth 100000 in
set_option maxHeartbeats 8000000 in
theorem rname_any (s : ByteArray) (w : World) (hs : s.size ≤ 1000) : Calls Tryd.prog 14 #[.string s] w (Ret (.bool (nameT s)) w) := by
  have HR := Lib.hid (runes_any s w hs)
  have HNO : Hid (runesW s 0 = none → nameT s = false) := Lib.hid (fun h => by unfold nameT; rw [h])
  have HYES : Hid (∀ l, runesW s 0 = some l → nameT s = (decide (1 ≤ l.length ∧ l.length ≤ 32) && l.all okR)) := Lib.hid (fun l h => by unfold nameT; rw [h])
  have HPL := Lib.hid (fun l (h : runesW s 0 = some l) i hi => place_zero h (i := i) hi)
  generalize nameT s = nm at HNO HYES ⊢
  go_enter Tryd.func14, Tryd.ntmps14
  go_wp2_with fail
  refine HR.out.mono ?_
  rintro e w1 (⟨hn, rfl, hg⟩ | ⟨l, u, v, hl, rfl, hu, hv, hg⟩)
  · obtain rfl := HNO.out hn
    clear hn HPL HYES HNO
    go_wp2
    go_ret
    exact ⟨rfl, hg⟩
  · have HL := Lib.hid hl
    have HG0 := Lib.hid hg
    have HNM := Lib.hid (HYES.out l hl)
    have HPL := Lib.hid (HPL.out l hl)
    have HU := Lib.hid hu
    obtain ⟨au, cu, rfl, hcu, -⟩ := hu.shape
    obtain ⟨av, cv, rfl, -, -⟩ := hv.shape
    have hlen : (fsts l).length = l.length := by simp [fsts]
    have hlen2 : (snds l).length = l.length := by simp [snds]
    rw [hlen] at hcu HU
    rw [hlen, hlen2]
    clear hl hg hu hv hlen hlen2 HNO HYES HR HL
    obtain ⟨m, hm⟩ : ∃ m, m = l.length := ⟨_, rfl⟩
    rw [← hm] at hcu HU HNM ⊢
    have HM := Lib.hid hm
    clear hm
    by_cases h1 : m < 1
    · have hz : (m : Int) < 1 := by omega
      obtain rfl : nm = false := by rw [HNM.out, decide_eq_false (by omega), Bool.false_and]
      go_wp2
      go_ret
      exact ⟨rfl, HG0.out⟩
    · by_cases h2 : 32 < m
      · have hz : ¬ (m : Int) < 1 := by omega
        have hz2 : (32 : Int) < (m : Int) := by omega
        obtain rfl : nm = false := by rw [HNM.out, decide_eq_false (by omega), Bool.false_and]
        go_wp2
        go_ret
        exact ⟨rfl, HG0.out⟩
      · have hz : ¬ (m : Int) < 1 := by omega
        have hz2 : ¬ (32 : Int) < (m : Int) := by omega
        have HNM2 : Hid (nm = l.all okR) := Lib.hid (by rw [HNM.out, decide_eq_true (by omega), Bool.true_and])
        clear HNM
        go_wp2
        go_loopw [6] (fun i wr => ∃ k : Nat, i = .int .i64 (k : Int) ∧ k ≤ m ∧ Hid ((l.take k).all okR = true) ∧ wr = w1) (fun i _ => m - (intOf i).toNat)
        case atStart => exact ⟨0, rfl, Nat.zero_le _, Lib.hid rfl, rfl⟩
        case round =>
          obtain ⟨k, rfl, hk, HA, hww⟩ := hrel
          subst hww
          by_cases hlt : k < m
          · have hltz : (k : Int) < (m : Int) := by omega
            have hkl : k < l.length := by rw [← HM.out]; exact hlt
            obtain ⟨b, o, rfl, hb, hc⟩ := HU.out.at_ (i := k) (by simp [fsts]; exact hkl)
            rw [fsts_get hkl] at hc
            have HP := Lib.hid (HPL.out k hkl)
            have HTK : Hid ((l.take (k + 1)).all okR = ((l.take k).all okR && okR l[k])) := Lib.hid (by rw [List.take_succ_eq_append_getElem hkl, List.all_append]; simp)
            have HBAD : Hid (okR l[k] = false → nm = false) := Lib.hid (fun h => by
              rw [HNM2.out]
              rw [List.all_eq_false]
              exact ⟨l[k], List.getElem_mem hkl, by rw [h]; decide⟩)
            obtain ⟨⟨r, p⟩, hx⟩ : ∃ x, x = l[k] := ⟨_, rfl⟩
            rw [← hx] at hc HP HTK HBAD
            clear hx
            simp only at hc HP
            have HOK : Hid (okR (r, p) = (letT r || (decide (k ≠ 0) && innT r))) := Lib.hid (by
              unfold okR
              simp only
              congr 2
              rw [Bool.eq_iff_iff]; simp only [decide_eq_true_eq, ne_eq]
              rw [HP.out])
            have HLV : Hid (letT (r : Int) = _) := Lib.hid (letT.eq_1 (r : Int))
            have HIV : Hid (innT (r : Int) = _) := Lib.hid (innT.eq_1 (r : Int))
            generalize okR (r, p) = ok at HTK HBAD HOK
            generalize letT (r : Int) = lt at HOK HLV
            generalize innT (r : Int) = inn at HOK HIV
            have HLV : Hid (lt = (decide (96 < (r : Int)) && decide ((r : Int) < 123) || decide (64 < (r : Int)) && decide ((r : Int) < 91) || decide ((r : Int) = 95) || decide (127 < (r : Int)))) := Lib.hid (by
              rw [HLV.out, Bool.eq_iff_iff]; simp only [Bool.or_eq_true, Bool.and_eq_true, decide_eq_true_eq]; omega)
            have HIV : Hid (inn = (decide ((r : Int) = 45) || decide ((r : Int) = 46) || decide (47 < (r : Int)) && decide ((r : Int) < 58))) := Lib.hid (by
              rw [HIV.out, Bool.eq_iff_iff]; simp only [Bool.or_eq_true, Bool.and_eq_true, decide_eq_true_eq]; omega)
            clear HP
            generalize (r : Int) = x at hc HLV HIV ⊢
            by_cases e95 : x = 95
            · subst e95
              obtain rfl : lt = true := HLV.out
              obtain rfl : ok = true := by rw [HOK.out]; rfl
              clear HLV HIV HBAD HOK
              have HN : Hid ((l.take (k + 1)).all okR = true) := Lib.hid (by rw [HTK.out, HA.out]; rfl)
              go_wp2
              exact ⟨⟨k + 1, by rw [show ((k + 1 : Nat) : Int) = (k : Int) + 1 by omega], by omega, HN, trivial⟩, by show m - ((k : Int) + 1).toNat < m - ((k : Int)).toNat; omega⟩
            · by_cases e45 : x = 45
              · subst e45
                obtain rfl : lt = false := HLV.out
                obtain rfl : inn = true := HIV.out
                clear HLV HIV
                go_upto_region 8 with (fail)
                by_cases hk0 : k = 0
                · obtain rfl : ok = false := by rw [HOK.out, hk0]; rfl
                  obtain rfl := HBAD.out rfl
                  have hkz : (k : Int) = 0 := by omega
                  clear HBAD HOK HTK
                  subst hk0
                  go_wp2
                  go_ret
                  exact ⟨rfl, HG0.out⟩
                · obtain rfl : ok = true := by rw [HOK.out, decide_eq_true hk0]; rfl
                  have hkz : ¬ (k : Int) = 0 := by omega
                  clear HBAD HOK
                  have HN : Hid ((l.take (k + 1)).all okR = true) := Lib.hid (by rw [HTK.out, HA.out]; rfl)
                  go_wp2
                  exact ⟨⟨k + 1, by rw [show ((k + 1 : Nat) : Int) = (k : Int) + 1 by omega], by omega, HN, trivial⟩, by show m - ((k : Int) + 1).toNat < m - ((k : Int)).toNat; omega⟩
              · by_cases e46 : x = 46
                · subst e46
                  obtain rfl : lt = false := HLV.out
                  obtain rfl : inn = true := HIV.out
                  clear HLV HIV
                  go_upto_region 8 with (fail)
                  by_cases hk0 : k = 0
                  · obtain rfl : ok = false := by rw [HOK.out, hk0]; rfl
                    obtain rfl := HBAD.out rfl
                    have hkz : (k : Int) = 0 := by omega
                    clear HBAD HOK HTK
                    subst hk0
                    go_wp2
                    go_ret
                    exact ⟨rfl, HG0.out⟩
                  · obtain rfl : ok = true := by rw [HOK.out, decide_eq_true hk0]; rfl
                    have hkz : ¬ (k : Int) = 0 := by omega
                    clear HBAD HOK
                    have HN : Hid ((l.take (k + 1)).all okR = true) := Lib.hid (by rw [HTK.out, HA.out]; rfl)
                    go_wp2
                    exact ⟨⟨k + 1, by rw [show ((k + 1 : Nat) : Int) = (k : Int) + 1 by omega], by omega, HN, trivial⟩, by show m - ((k : Int) + 1).toNat < m - ((k : Int)).toNat; omega⟩
                · have HLV : Hid (lt = (decide (96 < x) && decide (x < 123) || decide (64 < x) && decide (x < 91) || decide (127 < x))) := Lib.hid (by
                    rw [HLV.out, Bool.eq_iff_iff]; simp only [Bool.or_eq_true, Bool.and_eq_true, decide_eq_true_eq]; omega)
                  have HIV : Hid (inn = (decide (47 < x) && decide (x < 58))) := Lib.hid (by
                    rw [HIV.out, Bool.eq_iff_iff]; simp only [Bool.or_eq_true, Bool.and_eq_true, decide_eq_true_eq]; omega)
                  go_upto_region 8 with (fail)
                  go_cut [8] from 38 to 59 (fun v wx => v = .bool lt ∧ wr = wx)
                  case first =>
                    go_wp2_with fail
                    all_goals
                      go_meet
                      exact ⟨congrArg Value.bool (by rw [HLV.out, Bool.eq_iff_iff]; simp only [Bool.or_eq_true, Bool.and_eq_true, decide_eq_true_eq]; first | omega | (simp; omega)), rfl⟩
                  case rest =>
                    obtain ⟨rfl, rfl⟩ := hcut
                    clear HLV
                    go_upto_region 9 with (fail)
                    go_cut [9] from 60 to 73 (fun v wx => v = .bool inn ∧ wr = wx)
                    case first =>
                      go_wp2_with fail
                      all_goals
                        go_meet
                        exact ⟨congrArg Value.bool (by rw [HIV.out, Bool.eq_iff_iff]; simp only [Bool.or_eq_true, Bool.and_eq_true, decide_eq_true_eq]; first | omega | (simp; omega)), rfl⟩
                    case rest =>
                      obtain ⟨rfl, rfl⟩ := hcut
                      clear HIV
                      clear e95 e45 e46
                      cases lt with
                      | true =>
                        obtain rfl : ok = true := by rw [HOK.out]; rfl
                        clear HBAD HOK
                        have HN : Hid ((l.take (k + 1)).all okR = true) := Lib.hid (by rw [HTK.out, HA.out]; rfl)
                        go_wp2
                        exact ⟨⟨k + 1, by rw [show ((k + 1 : Nat) : Int) = (k : Int) + 1 by omega], by omega, HN, trivial⟩, by show m - ((k : Int) + 1).toNat < m - ((k : Int)).toNat; omega⟩
                      | false =>
                        by_cases hk0 : k = 0
                        · obtain rfl : ok = false := by rw [HOK.out, hk0]; rfl
                          obtain rfl := HBAD.out rfl
                          have hkz : (k : Int) = 0 := by omega
                          clear HBAD HOK HTK
                          subst hk0
                          go_wp2
                          go_ret
                          exact ⟨rfl, HG0.out⟩
                        · have hkz : ¬ (k : Int) = 0 := by omega
                          rw [decide_eq_true (show k ≠ 0 from hk0)] at HOK
                          clear hk0
                          cases inn with
                          | true =>
                            obtain rfl : ok = true := by rw [HOK.out]; rfl
                            clear HBAD HOK
                            have HN : Hid ((l.take (k + 1)).all okR = true) := Lib.hid (by rw [HTK.out, HA.out]; rfl)
                            go_wp2
                            exact ⟨⟨k + 1, by rw [show ((k + 1 : Nat) : Int) = (k : Int) + 1 by omega], by omega, HN, trivial⟩, by show m - ((k : Int) + 1).toNat < m - ((k : Int)).toNat; omega⟩
                          | false =>
                            obtain rfl : ok = false := by rw [HOK.out]; rfl
                            obtain rfl := HBAD.out rfl
                            clear HBAD HOK HTK
                            go_wp2
                            go_ret
                            exact ⟨rfl, HG0.out⟩
          · have hltz : ¬ (k : Int) < (m : Int) := by omega
            have hkm : k = m := by omega
            have HE : Hid (true = nm) := Lib.hid (by
              rw [HNM2.out]
              have h := HA.out
              rw [hkm, HM.out, List.take_length] at h
              exact h.symm)
            clear hkm
            go_wp2
            go_ret
            exact ⟨ret_bool' HE.out, HG0.out⟩
end Go.Proofs.YtcmgkmkpkklloaaDoor
