/-
  Layer 9: names: the program's.
-/
import Derived.Test.YtcmgkmkpkklloaaDoorT7
namespace Go.Proofs.YtcmgkmkpkklloaaDoor
open Go.RowKit Go.Tab Go.WideShapes

/-- May a rune stand so in a name? -/
def okR (x : Nat × Nat) : Bool := letT x.1 || (decide (x.2 ≠ 0) && innT x.1)
def nameT (s : ByteArray) : Bool := match runesW s 0 with
  | none => false
  | some l => decide (1 ≤ l.length ∧ l.length ≤ 32) && l.all okR
theorem runesW_ge (s : ByteArray) : ∀ (n i : Nat) (l : List (Nat × Nat)), s.size - i ≤ n → runesW s i = some l → (∀ p ∈ l, i ≤ p.2) ∧ (∀ p t, l = p :: t → p.2 = i ∧ ∀ q ∈ t, i + 1 ≤ q.2) := by
  intro n
  induction n with
  | zero =>
    intro i l hn h
    rw [runesW_end (by omega)] at h
    injection h with h; subst h
    exact ⟨fun p hp => (by cases hp), fun p t e => (by cases e)⟩
  | succ n ih =>
    intro i l hn h
    by_cases hi : i < s.size
    · by_cases h2 : (firstF s i).2 = 0
      · rw [runesW_bad hi h2] at h; cases h
      · rw [runesW_step hi h2] at h
        cases ht : runesW s (i + (firstF s i).2) with
        | none => rw [ht] at h; cases h
        | some t =>
          rw [ht] at h
          simp only [Option.map_some, Option.some.injEq] at h
          subst h
          obtain ⟨k1, -⟩ := ih _ t (by omega) ht
          refine ⟨fun p hp => ?_, fun p t' e => ?_⟩
          · rcases List.mem_cons.1 hp with rfl | hp
            · exact Nat.le_refl _
            · have := k1 p hp; omega
          · injection e with e1 e2
            subst e1; subst e2
            exact ⟨rfl, fun q hq => by have := k1 q hq; omega⟩
    · rw [runesW_end hi] at h
      injection h with h; subst h
      exact ⟨fun p hp => (by cases hp), fun p t e => (by cases e)⟩
theorem place_zero {s : ByteArray} {l : List (Nat × Nat)} (h : runesW s 0 = some l) {i : Nat} (hi : i < l.length) : l[i].2 = 0 ↔ i = 0 := by
  cases l with
  | nil => cases hi
  | cons p t =>
    obtain ⟨-, k2⟩ := runesW_ge s s.size 0 _ (by omega) h
    obtain ⟨k3, k4⟩ := k2 p t rfl
    cases i with
    | zero => exact ⟨fun _ => rfl, fun _ => k3⟩
    | succ i =>
      have := k4 _ (List.getElem_mem (show i < t.length by simpa using hi))
      rw [List.getElem_cons_succ]
      omega

set_option maxRecDepth 100000 in
set_option maxHeartbeats 4000000 in
theorem name_any (s : ByteArray) (w : World) (hs : s.size ≤ 1000) (hT : Tabs w) : Calls Tryd.prog 13 #[.string s] w (Ret (.bool (nameT s)) w) := by
  have HR := Lib.hid (count_any s w hs hT)
  clear hT
  have HNO : Hid (rightT s = false → nameT s = false) := Lib.hid (fun h => by
    unfold rightT at h; unfold nameT
    cases hh : runesW s 0 with
    | none => rfl
    | some l => rw [hh] at h; cases h)
  have HLEN : Hid (¬ (1 ≤ cntT s ∧ cntT s ≤ 32) → nameT s = false) := Lib.hid (fun h => by
    unfold cntT at h; unfold nameT
    cases hh : runesW s 0 with
    | none => rfl
    | some l => rw [hh] at h; simp only [Option.getD_some] at h; simp only [decide_eq_false h, Bool.false_and])
  have HYES : Hid (1 ≤ cntT s ∧ cntT s ≤ 32 → ∀ l, runesW s 0 = some l → nameT s = l.all okR) := Lib.hid (fun h l hl => by
    unfold cntT at h; unfold nameT
    rw [hl] at h ⊢; simp only [Option.getD_some] at h; simp only [decide_eq_true h, Bool.true_and])
  have HUR := Lib.hid (fun acc i (h : Upto s acc i) hr hi => upto_right h hr hi)
  have HUS := Lib.hid (fun acc i (h : Upto s acc i) hr hi => upto_some h hr hi)
  generalize cntT s = n at HR HLEN HYES
  generalize rightT s = b at HR HNO HUR HUS
  generalize nameT s = nm at HNO HLEN HYES ⊢
  go_enter Tryd.func13, Tryd.ntmps13
  go_wp2_with fail
  refine HR.out.mono ?_
  rintro _ w1 ⟨rfl, hg⟩
  have HG0 := Lib.hid hg
  clear hg HR
  cases b with
  | false =>
    obtain rfl := HNO.out rfl
    go_wp2
    go_ret
    exact ⟨rfl, HG0.out⟩
  | true =>
    by_cases hn1 : n < 1
    · obtain rfl := HLEN.out (by omega)
      have hz : (n : Int) < 1 := by omega
      go_wp2
      go_ret
      exact ⟨rfl, HG0.out⟩
    · by_cases hn2 : 32 < n
      · obtain rfl := HLEN.out (by omega)
        have hz : ¬ (n : Int) < 1 := by omega
        have hz2 : (32 : Int) < (n : Int) := by omega
        go_wp2
        go_ret
        exact ⟨rfl, HG0.out⟩
      · have hz : ¬ (n : Int) < 1 := by omega
        have hz2 : ¬ (32 : Int) < (n : Int) := by omega
        have HY := Lib.hid (HYES.out ⟨by omega, by omega⟩)
        clear HYES HLEN HNO
        have GK : Hid (Grows w1 (w1.iter s 0)) := Lib.hid (Grows.alloc _ _)
        have I0 : Hid ((w1.iter s 0).heap[w1.heap.size]? = some (.stringIter s 0)) := Lib.hid (World.iter_heap w1 s 0)
        go_wp2
        go_loopw [] (fun wr => ∃ (pos : Nat) (acc : List (Nat × Nat)), pos ≤ s.size ∧ Hid (acc.all okR = true) ∧ Hid (Upto s acc pos) ∧ Hid (wr.heap[w1.heap.size]? = some (.stringIter s pos)) ∧ Hid (Grows w1 wr)) (fun w' => s.size - w'.iterPos w1.heap.size)
        case atStart => exact ⟨0, [], Nat.zero_le _, Lib.hid rfl, Lib.hid (Upto.zero s), I0, GK⟩
        case round =>
          clear I0 GK
          obtain ⟨pos, acc, hp, HA, HU, HI, HG⟩ := hrel
          have HPOS := Lib.hid (iterPos_of HI.out)
          by_cases hlt : pos < s.size
          · have hnx : ∀ ty, (Instr.next (.pointer (some ⟨w1.heap.size, 0, none⟩)) true ty).run Tryd.prog wr = _ := fun ty => Lib.run_next_any_at wr w1.heap.size s pos ty HI.out hlt
            have HI2 := Lib.hid (Lib.iterAt_heap wr w1.heap.size s pos (pos + (Utf8.decode s pos).2) HI.out)
            have HG2 := Lib.hid (Grows.iterAt HG.out s (pos + (Utf8.decode s pos).2))
            have HW := Lib.hid (first_width hlt)
            have HNZ := Lib.hid (HUR.out acc pos HU.out trivial hlt)
            have hd := dec_right hlt HNZ.out
            have HSM := Lib.hid (HUS.out acc pos HU.out trivial hlt)
            have HS2 := Lib.hid (HU.out.step hlt HNZ.out)
            rw [hd] at hnx HI2 HG2
            clear hd
            obtain ⟨⟨r, k⟩, hdd⟩ : ∃ d, d = firstF s pos := ⟨_, rfl⟩
            rw [← hdd] at hnx HI2 HG2 HW HNZ HSM HS2
            simp only at hnx HI2 HG2 HW HNZ HSM HS2
            clear hdd
            have HLT := Lib.hid (letter_any (r : Int))
            have HIN := Lib.hid (inner_any (r : Int))
            have HOK : Hid (okR (r, pos) = (letT r || (decide (pos ≠ 0) && innT r))) := Lib.hid rfl
            have HBAD : Hid (okR (r, pos) = false → nm = false) := Lib.hid (fun h => by
              obtain ⟨t, ht⟩ := HSM.out
              rw [HY.out _ ht, List.all_append, List.all_cons, h]; simp)
            have HGOOD : Hid (okR (r, pos) = true → (acc ++ [(r, pos)]).all okR = true) := Lib.hid (fun h => by
              rw [List.all_append, HA.out, List.all_cons, h]; rfl)
            generalize okR (r, pos) = o at HOK HBAD HGOOD
            generalize letT (r : Int) = lt at HLT HOK
            generalize innT (r : Int) = inn at HIN HOK
            go_wp2_with fail
            refine (HLT.out _).mono ?_
            rintro _ wf ⟨rfl, hg⟩
            have HI3 := Lib.hid (hg.block HI2.out)
            have HG3 := Lib.hid (HG2.out.trans hg)
            clear hg HI2 HG2 hnx HLT HSM
            cases lt with
            | true =>
              have HG4 := Lib.hid (HGOOD.out (by rw [HOK.out]; rfl))
              go_wp2
              exact ⟨⟨pos + k, acc ++ [(r, pos)], HW.out, HG4, HS2, HI3, HG3⟩, by rw [iterPos_of HI3.out, HPOS.out]; have := HNZ.out; omega⟩
            | false =>
              by_cases hp0 : pos = 0
              · obtain rfl := HBAD.out (by rw [HOK.out, hp0]; rfl)
                have hpz : (pos : Int) = 0 := by omega
                subst hp0
                go_wp2
                go_ret
                exact ⟨rfl, HG0.out.trans HG3.out⟩
              · have hpz : ¬ (pos : Int) = 0 := by omega
                have HP0 := Lib.hid hp0
                clear hp0
                go_wp2_with fail
                refine (HIN.out _).mono ?_
                rintro _ wh ⟨rfl, hg⟩
                have HI4 := Lib.hid (hg.block HI3.out)
                have HG4 := Lib.hid (HG3.out.trans hg)
                clear hg
                cases inn with
                | true =>
                  have HG5 := Lib.hid (HGOOD.out (by rw [HOK.out, decide_eq_true HP0.out]; rfl))
                  go_wp2
                  exact ⟨⟨pos + k, acc ++ [(r, pos)], HW.out, HG5, HS2, HI4, HG4⟩, by rw [iterPos_of HI4.out, HPOS.out]; have := HNZ.out; omega⟩
                | false =>
                  obtain rfl := HBAD.out (by rw [HOK.out]; simp)
                  go_wp2
                  go_ret
                  exact ⟨rfl, HG0.out.trans HG4.out⟩
          · have hnx : ∀ ty, (Instr.next (.pointer (some ⟨w1.heap.size, 0, none⟩)) true ty).run Tryd.prog wr = _ := fun ty => Lib.run_next_end_at wr w1.heap.size s pos ty HI.out hlt
            have HN := Lib.hid (HY.out _ (HU.out.fin hlt))
            go_wp2
            go_ret
            exact ⟨ret_bool' (by rw [HN.out, HA.out]), HG0.out.trans HG.out⟩
end Go.Proofs.YtcmgkmkpkklloaaDoor
