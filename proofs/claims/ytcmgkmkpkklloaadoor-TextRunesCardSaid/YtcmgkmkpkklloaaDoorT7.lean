/-
  Layer 9: a text's first runes; names.
-/
import Derived.Test.YtcmgkmkpkklloaaDoorT6
namespace Go.Proofs.YtcmgkmkpkklloaaDoor
open Go.RowKit Go.Tab Go.WideShapes

def noText : ByteArray := ⟨#[]⟩
/-- A text's first n runes. -/
def cutT (s : ByteArray) (n : Int) : ByteArray := match runesW s 0 with
  | none => noText
  | some l => match l[n.toNat]? with
    | some p => s.extract 0 p.2
    | none => s
theorem upto_right {s : ByteArray} {acc : List (Nat × Nat)} {i : Nat} (h : Upto s acc i) (hr : rightT s = true) (hi : i < s.size) : (firstF s i).2 ≠ 0 := fun h2 => by
  have := h.bad hi h2
  unfold rightT at hr
  rw [this] at hr; cases hr
theorem upto_some {s : ByteArray} {acc : List (Nat × Nat)} {i : Nat} (h : Upto s acc i) (hr : rightT s = true) (hi : i < s.size) : ∃ t, runesW s 0 = some (acc ++ ((firstF s i).1, i) :: t) := by
  have h2 := upto_right h hr hi
  have h3 := (h.step hi h2).2
  cases ht : runesW s (i + (firstF s i).2) with
  | none => rw [ht] at h3; unfold rightT at hr; rw [h3] at hr; cases hr
  | some t => rw [ht] at h3; exact ⟨t, by rw [h3]; simp⟩

set_option maxRecDepth 100000 in
set_option maxHeartbeats 4000000 in
theorem cut_any (s : ByteArray) (n : Int) (w : World) (hs : s.size ≤ 1000) (hn1 : -9223372036854775808 ≤ n) (hn2 : n ≤ 9223372036854775807) (hT : Tabs w) : Calls Tryd.prog 12 #[.string s, .int .i64 n] w (Ret (.string (cutT s n)) w) := by
  have HR := Lib.hid (right_any s w hs hT)
  clear hT
  by_cases hr : rightT s = true
  · rw [hr] at HR
    have HRT := Lib.hid hr
    clear hr
    go_enter Tryd.func12, Tryd.ntmps12
    go_wp2_with fail
    refine HR.out.mono ?_
    rintro _ w1 ⟨rfl, hg⟩
    have G0 : Hid (Grows w (w1.iter s 0)) := Lib.hid (hg.trans (Grows.alloc _ _))
    have GK : Hid (Grows w1 (w1.iter s 0)) := Lib.hid (Grows.alloc _ _)
    have I0 : Hid ((w1.iter s 0).heap[w1.heap.size]? = some (.stringIter s 0)) := Lib.hid (World.iter_heap w1 s 0)
    have HG0 := Lib.hid hg
    clear hg HR
    go_wp2
    go_loopw [1] (fun c wr => ∃ (pos : Nat) (acc : List (Nat × Nat)), c = .int .i64 (n - (acc.length : Int)) ∧ pos ≤ s.size ∧ acc.length ≤ pos ∧ Hid (acc.length = 0 ∨ (acc.length : Int) ≤ n) ∧ Hid (Upto s acc pos) ∧ Hid (wr.heap[w1.heap.size]? = some (.stringIter s pos)) ∧ Hid (Grows w1 wr)) (fun _ w' => s.size - w'.iterPos w1.heap.size)
    case atStart => exact ⟨0, [], by simp, Nat.zero_le _, Nat.le_refl _, Lib.hid (.inl rfl), Lib.hid (Upto.zero s), I0, GK⟩
    case round =>
      clear I0 G0 GK
      obtain ⟨pos, acc, rfl, hp, hal, HN, HU, HI, HG⟩ := hrel
      have HPOS := Lib.hid (iterPos_of HI.out)
      obtain ⟨m, hm⟩ : ∃ m, m = acc.length := ⟨_, rfl⟩
      rw [← hm] at hal HN ⊢
      have HM := Lib.hid hm
      clear hm
      by_cases hlt : pos < s.size
      · have hnx : ∀ ty, (Instr.next (.pointer (some ⟨w1.heap.size, 0, none⟩)) true ty).run Tryd.prog wr = _ := fun ty => Lib.run_next_any_at wr w1.heap.size s pos ty HI.out hlt
        have HI2 := Lib.hid (Lib.iterAt_heap wr w1.heap.size s pos (pos + (Utf8.decode s pos).2) HI.out)
        have HG2 := Lib.hid (Grows.iterAt HG.out s (pos + (Utf8.decode s pos).2))
        have HW := Lib.hid (first_width hlt)
        have HNZ := Lib.hid (upto_right HU.out HRT.out hlt)
        have HDR := Lib.hid (dec_right hlt HNZ.out)
        have HSM := Lib.hid (upto_some HU.out HRT.out hlt)
        have HS2 := Lib.hid (HU.out.step hlt HNZ.out)
        by_cases hnm : n - (m : Int) ≤ 0
        · have HC : Hid (cutT s n = s.extract 0 pos) := Lib.hid (by
            obtain ⟨t, ht⟩ := HSM.out
            have hmm : n.toNat = acc.length := by have := HN.out; have := HM.out; omega
            unfold cutT
            rw [ht]
            simp only [hmm]
            rw [List.getElem?_append_right (Nat.le_refl _), Nat.sub_self]
            rfl)
          have hpz : (pos : Int) ≤ (s.size : Int) := by omega
          go_wp2
          go_ret
          exact ⟨by rw [HC.out]; rfl, HG0.out.trans HG2.out⟩
        · have hd := HDR.out
          have HI3 : Hid ((wr.iterAt w1.heap.size s (pos + (Utf8.decode s pos).2)).heap[w1.heap.size]? = some (.stringIter s (pos + (firstF s pos).2))) := Lib.hid (by rw [HI2.out, hd])
          have hw := HW.out
          have hwd := HNZ.out
          have HN2 : Hid (m + 1 = 0 ∨ ((m + 1 : Nat) : Int) ≤ n) := Lib.hid (.inr (by omega))
          clear hd HDR HSM HI2
          generalize firstF s pos = d at HS2 HI3 hw hwd
          obtain ⟨r, k⟩ := d
          simp only at HS2 HI3 hw hwd
          have hmb : (m : Int) ≤ 1000 := by omega
          have hm0 : (0 : Int) ≤ (m : Int) := by omega
          have HKP := Lib.hid hwd
          have HWW := Lib.hid hw
          clear hwd hw
          go_wp2
          exact ⟨⟨pos + k, acc ++ [(r, pos)], by rw [List.length_append, ← HM.out]; exact congrArg (Value.int .i64) (by show n - (m : Int) - 1 = n - ((m + 1 : Nat) : Int); omega), HWW.out, by rw [List.length_append, ← HM.out]; show m + 1 ≤ _; have := HKP.out; omega, Lib.hid (by rw [List.length_append, ← HM.out]; exact HN2.out), HS2, HI3, HG2⟩, by rw [iterPos_of HI3.out, HPOS.out]; have := HKP.out; omega⟩
      · have hnx : ∀ ty, (Instr.next (.pointer (some ⟨w1.heap.size, 0, none⟩)) true ty).run Tryd.prog wr = _ := fun ty => Lib.run_next_end_at wr w1.heap.size s pos ty HI.out hlt
        have HC : Hid (cutT s n = s) := Lib.hid (by
          unfold cutT
          rw [HU.out.fin hlt]
          simp only
          rw [List.getElem?_eq_none (by have := HN.out; have := HM.out; omega)])
        go_wp2
        go_ret
        exact ⟨by rw [HC.out]; rfl, HG0.out.trans HG.out⟩
  · have hr0 : rightT s = false := by cases h : rightT s with | true => exact absurd h hr | false => rfl
    rw [hr0] at HR
    have HC : Hid (cutT s n = noText) := Lib.hid (by
      unfold rightT at hr0
      unfold cutT
      cases h : runesW s 0 with
      | none => rfl
      | some l => rw [h] at hr0; cases hr0)
    clear hr hr0
    go_enter Tryd.func12, Tryd.ntmps12
    go_wp2_with fail
    refine HR.out.mono ?_
    rintro _ w1 ⟨rfl, hg⟩
    go_wp2
    go_ret
    exact ⟨by rw [HC.out]; rfl, hg⟩
def letT (r : Int) : Bool := (decide (97 ≤ r) && decide (r ≤ 122)) || (decide (65 ≤ r) && decide (r ≤ 90)) || decide (r = 95) || decide (128 ≤ r)
def innT (r : Int) : Bool := (decide (48 ≤ r) && decide (r ≤ 57)) || decide (r = 45) || decide (r = 46)
set_option maxHeartbeats 2000000 in
theorem letter_any (r : Int) (w : World) : Calls Tryd.prog 23 #[.int .i32 r] w (Ret (.bool (letT r)) w) := by
  have HV : Hid (letT r = _) := Lib.hid (letT.eq_1 r)
  generalize letT r = b at HV ⊢
  go_enter Tryd.func23, Tryd.ntmps23
  go_wp2
  all_goals
    go_ret
    exact ⟨ret_bool' (by rw [HV.out, Bool.eq_iff_iff]; simp only [Bool.or_eq_true, Bool.and_eq_true, decide_eq_true_eq]; first | omega | (simp; omega)), Grows.refl _⟩
set_option maxHeartbeats 2000000 in
theorem inner_any (r : Int) (w : World) : Calls Tryd.prog 24 #[.int .i32 r] w (Ret (.bool (innT r)) w) := by
  have HV : Hid (innT r = _) := Lib.hid (innT.eq_1 r)
  generalize innT r = b at HV ⊢
  go_enter Tryd.func24, Tryd.ntmps24
  go_wp2
  all_goals
    go_ret
    exact ⟨ret_bool' (by rw [HV.out, Bool.eq_iff_iff]; simp only [Bool.or_eq_true, Bool.and_eq_true, decide_eq_true_eq]; first | omega | (simp; omega)), Grows.refl _⟩
end Go.Proofs.YtcmgkmkpkklloaaDoor
