/-
  Layer 9: the document's runes of a text.
-/
import Derived.Test.YtcmgkmkpkklloaaDoorT2
import Derived.Test.YtcmgkmkpkklloaaDoorRD
namespace Go.Proofs.YtcmgkmkpkklloaaDoor
open Go.RowKit Go.Tab Go.WideShapes

theorem get_ext {s : ByteArray} {i j : Nat} (hj : i + j < s.size) : (s.extract i s.size).get! j = s.get! (i + j) := by
  have h1 : j < (s.extract i s.size).size := by rw [ByteArray.size_extract]; omega
  rw [Utf8W.get!_of_lt _ _ h1, Utf8W.get!_of_lt _ _ hj, ByteArray.getElem_extract]
theorem get_off {s : ByteArray} {j : Nat} (hj : s.size ≤ j) : s.get! j = default := by
  obtain ⟨a⟩ := s
  show a[j]! = default
  exact getElem!_neg a j (by have : a.size ≤ j := hj; omega)
theorem B_ext (s : ByteArray) (i j : Nat) (hi : i ≤ s.size) : B (s.extract i s.size) j = B s (i + j) := by
  unfold B
  by_cases h : i + j < s.size
  · rw [get_ext h]
  · rw [get_off (s := s) (by omega), get_off (s := s.extract i s.size) (by rw [ByteArray.size_extract]; omega)]
theorem first_ext (s : ByteArray) (i : Nat) (hi : i ≤ s.size) : firstF (s.extract i s.size) 0 = firstF s i := by
  unfold firstF
  rw [dec_at, dec_at, B_ext s i 0 hi, B_ext s i _ hi, B_ext s i _ hi, B_ext s i _ hi, ByteArray.size_extract]
  simp only [Nat.add_zero, Nat.zero_add, Nat.sub_zero]
  rw [show min s.size s.size - i = s.size - i by omega]
  by_cases h : i < s.size
  · rw [if_pos (by omega), if_pos h]
  · rw [if_neg (by omega), if_neg h]
/-- A text's runes, and where each begins. -/
def runesW (s : ByteArray) (i : Nat) : Option (List (Nat × Nat)) :=
  if h : i < s.size then
    if h2 : (firstF s i).2 = 0 then none else (runesW s (i + (firstF s i).2)).map (((firstF s i).1, i) :: ·)
  else some []
termination_by s.size - i
decreasing_by omega
theorem runesW_end {s : ByteArray} {i : Nat} (h : ¬ i < s.size) : runesW s i = some [] := by rw [runesW, dif_neg h]
theorem runesW_bad {s : ByteArray} {i : Nat} (h : i < s.size) (h2 : (firstF s i).2 = 0) : runesW s i = none := by rw [runesW, dif_pos h, dif_pos h2]
theorem runesW_step {s : ByteArray} {i : Nat} (h : i < s.size) (h2 : (firstF s i).2 ≠ 0) : runesW s i = (runesW s (i + (firstF s i).2)).map (((firstF s i).1, i) :: ·) := by rw [runesW, dif_pos h, dif_neg h2]
theorem first_width {s : ByteArray} {i : Nat} (h : i < s.size) : i + (firstF s i).2 ≤ s.size := by
  unfold firstF
  rw [if_pos h, dec_at]
  unfold Lib.decodeN
  generalize hm : s.size - i = m
  repeat' split
  all_goals first | (show i + 0 ≤ s.size; omega) | (show i + 1 ≤ s.size; omega) | (show i + 2 ≤ s.size; omega) | (show i + 3 ≤ s.size; omega) | (show i + 4 ≤ s.size; omega)
theorem first_rune {s : ByteArray} {i : Nat} : (firstF s i).1 ≤ 1114111 := by
  have h8 := B_lt s i
  unfold firstF
  by_cases hi : i < s.size
  · rw [if_pos hi, dec_at]
    unfold Lib.decodeN
    repeat' split
    all_goals (simp only; omega)
  · rw [if_neg hi]; exact Nat.zero_le _
/-- The state of a loop over a text's runes. -/
def Upto (s : ByteArray) (acc : List (Nat × Nat)) (i : Nat) : Prop := i ≤ s.size ∧ runesW s 0 = (runesW s i).map (acc ++ ·)
theorem Upto.zero (s : ByteArray) : Upto s [] 0 := ⟨Nat.zero_le _, by cases runesW s 0 <;> rfl⟩
theorem Upto.step {s : ByteArray} {acc : List (Nat × Nat)} {i : Nat} (h : Upto s acc i) (hi : i < s.size) (h2 : (firstF s i).2 ≠ 0) : Upto s (acc ++ [((firstF s i).1, i)]) (i + (firstF s i).2) := by
  refine ⟨first_width hi, ?_⟩
  rw [h.2, runesW_step hi h2]
  cases runesW s (i + (firstF s i).2) with
  | none => rfl
  | some l => simp
theorem Upto.bad {s : ByteArray} {acc : List (Nat × Nat)} {i : Nat} (h : Upto s acc i) (hi : i < s.size) (h2 : (firstF s i).2 = 0) : runesW s 0 = none := by
  rw [h.2, runesW_bad hi h2]; rfl
theorem Upto.fin {s : ByteArray} {acc : List (Nat × Nat)} {i : Nat} (h : Upto s acc i) (hi : ¬ i < s.size) : runesW s 0 = some acc := by
  rw [h.2, runesW_end hi]; simp

theorem infoI : (Tryd.prog.info? 3).map (fun i => (i.zero, i.size, i.bytes)) = some (some (.int .i64 0), 1, 8) := by kernel_rfl
def fsts (l : List (Nat × Nat)) : List Int := l.map fun p => (p.1 : Int)
def snds (l : List (Nat × Nat)) : List Int := l.map fun p => (p.2 : Int)
theorem row_oneI {w : World} {b : Nat} {x : Int} {T : TypeId} (h : w.heap[b]? = some (.cells #[iv x] T (0, 0))) : RowAt 1 w (.slice (some ⟨b, 0, none⟩) 1 1) 1 [iv x] := by
  refine ⟨rfl, ?_, .inr ⟨b, 0, 1, rfl, (Array.getElem?_eq_some_iff.1 h).1, fun j v hj => ?_⟩⟩
  · intro v hv
    simp only [List.mem_cons, List.not_mem_nil, or_false] at hv
    subst hv; rfl
  · match j, hj with
    | 0, hj => simp at hj; subst hj; simp [World.cell?, h]
    | j + 1, hj => simp at hj
/-- What Runes answers. -/
def RetRunes (s : ByteArray) (w : World) (e : Ending) (w' : World) : Prop :=
  (runesW s 0 = none ∧ e = .returned (.tuple #[.slice none 0 0, .slice none 0 0, .bool false]) ∧ Grows w w') ∨
  ∃ l u v, runesW s 0 = some l ∧ e = .returned (.tuple #[u, v, .bool true]) ∧ IntsAt w' u (fsts l) ∧ IntsAt w' v (snds l) ∧ Grows w w'

set_option maxRecDepth 100000 in
set_option maxHeartbeats 4000000 in
theorem runes_any (s : ByteArray) (w : World) (hs : s.size ≤ 1000) : Calls Tryd.prog 8 #[.string s] w (RetRunes s w) := by
  obtain ⟨i0, hi0, hz0, hz1, hz2⟩ := info_parts infoI
  have HF := Lib.hid (fun (i : Nat) (w : World) => first_any (s.extract i s.size) w (by rw [ByteArray.size_extract]; omega))
  go_enter Tryd.func8, Tryd.ntmps8
  go_wp2
  go_loopw [5, 6, 7] (fun u v i wr => ∃ (k : Nat) (acc : List (Nat × Nat)) (ou oa : Value), ou = u ∧ oa = v ∧ i = .int .i64 (k : Int) ∧ k ≤ s.size ∧ Hid (Upto s acc k) ∧ acc.length ≤ k ∧ Hid (wr.ownsRow w.heap.size 3 1 ou acc.length ((fsts acc).map iv)) ∧ Hid (wr.ownsRow w.heap.size 3 1 oa acc.length ((snds acc).map iv)) ∧ Hid (ApartV ou oa) ∧ Hid (Grows w wr)) (fun _ _ i _ => s.size - (intOf i).toNat)
  case atStart => exact ⟨0, [], _, _, rfl, rfl, rfl, Nat.zero_le _, Lib.hid (Upto.zero s), Nat.le_refl _, Lib.hid (World.ownsRow_nil _ _ _ _), Lib.hid (World.ownsRow_nil _ _ _ _), Lib.hid (ApartV.nil _), Lib.hid (Grows.refl _)⟩
  case round =>
    obtain ⟨k, acc, ou, oa, rfl, rfl, rfl, hk, HU, hal, HO, HA, HX, HG⟩ := hrel
    by_cases hlt : k < s.size
    · have hltz : (k : Int) < (s.size : Int) := by omega
      have hkz : (k : Int) ≤ (s.size : Int) := by omega
      have HC := Lib.hid (HF.out k)
      rw [first_ext s k (by omega)] at HC
      have HW := Lib.hid (first_width hlt)
      have HS1 := Lib.hid (fun h => HU.out.step hlt h)
      have HB1 := Lib.hid (fun h => HU.out.bad hlt h)
      go_wp2_with fail
      refine (HC.out _).mono ?_
      rintro _ wf ⟨rfl, hg⟩
      have HG1 := Lib.hid (HG.out.trans hg)
      have HO1 := Lib.hid (ownsRow_grows HO.out hg)
      have HA1 := Lib.hid (ownsRow_grows HA.out hg)
      clear hg HG HO HA HC
      obtain ⟨⟨r, n⟩, hd⟩ : ∃ d, d = firstF s k := ⟨_, rfl⟩
      rw [← hd] at HW HS1 HB1 ⊢
      have hr : r ≤ 1114111 := by have h := first_rune (s := s) (i := k); rw [← hd] at h; exact h
      have hw := HW.out
      clear hd
      simp only at HS1 HB1 hw
      by_cases hn : n = 0
      · subst hn
        have HNN := Lib.hid (HB1.out rfl)
        clear hw HW
        go_wp2
        exact bodyPost_ret (v := .tuple #[.slice none 0 0, .slice none 0 0, .bool false]) (by simp [results, Tryd.results8, go_sem]) rfl (.inl ⟨HNN.out, rfl, HG1.out⟩)
      · have hnz : ¬ (n : Int) = 0 := by omega
        have HS2 := Lib.hid (HS1.out hn)
        have hkn : (k : Int) + (n : Int) ≤ 1000 := by omega
        have hkz0 : (0 : Int) ≤ (k : Int) := by omega
        have hnz0 : (0 : Int) ≤ (n : Int) := by omega
        go_wp2_with (at_builtin; first
          | (refine append_row3 rfl _ _ 23 rfl w.heap.size 3 i0 _ 1 8 Tryd.underlying23 hi0 hz0 hz1 hz2 rfl (by decide) ou acc.length _ rfl (ownsRow_grows HO1.out (Grows.alloc _ _)) 1 [iv (r : Int)] _ rfl (row_oneI (heap_new _ _ _ rfl)) (by decide) (by unfold maxLen; omega) (by omega) (HG1.out.al _).size ?_; intro o2 wd hown hgr hl; have HO2 := Lib.hid hown; have HA2 := Lib.hid (HX.out.kept (ownsRow_grows HA1.out (Grows.alloc _ _)) hgr); have HX2 := Lib.hid (HX.out.grow hl (fun g hg => ((ownsRow_grows HA1.out (Grows.alloc _ _)).lt g hg).2)); have HG2 := Lib.hid (grown_all (ownsRow_grows HO1.out (Grows.alloc _ _)) (HG1.out.al _) hgr); clear hown hgr hl)
          | (refine append_row3 rfl _ _ 23 rfl w.heap.size 3 i0 _ 1 8 Tryd.underlying23 hi0 hz0 hz1 hz2 rfl (by decide) oa acc.length _ rfl (ownsRow_grows HA2.out (Grows.alloc _ _)) 1 [iv (k : Int)] _ rfl (row_oneI (heap_new _ _ _ rfl)) (by decide) (by unfold maxLen; omega) (by omega) (HG2.out.al _).size ?_; intro o3 we hown hgr hl; have HA3 := Lib.hid hown; have HO3 := Lib.hid (HX2.out.symm.kept (ownsRow_grows HO2.out (Grows.alloc _ _)) hgr); have HX3 := Lib.hid (HX2.out.symm.grow hl (fun g hg => ((ownsRow_grows HO2.out (Grows.alloc _ _)).lt g hg).2)).symm; have HG3 := Lib.hid (grown_all (ownsRow_grows HA2.out (Grows.alloc _ _)) (HG2.out.al _) hgr); clear hown hgr hl))
        exact ⟨⟨k + n, acc ++ [(r, k)], o2, o3, rfl, rfl, by simp, hw, HS2, by rw [List.length_append]; show acc.length + 1 ≤ _; omega, Lib.hid (by rw [List.length_append, fsts, List.map_append, List.map_append]; exact HO3.out), Lib.hid (by rw [List.length_append, snds, List.map_append, List.map_append]; exact HA3.out), HX3, HG3⟩, by simp only [intOf]; omega⟩
    · have HL := Lib.hid (HU.out.fin hlt)
      have hltz : ¬ (k : Int) < (s.size : Int) := by omega
      go_wp2
      exact bodyPost_ret (v := .tuple #[ou, oa, .bool true]) (by simp [results, Tryd.results8, go_sem]) rfl (.inr ⟨acc, ou, oa, HL.out, rfl, own_ints HO.out (by simp [fsts]) (by simp [fsts]; omega), own_ints HA.out (by simp [snds]) (by simp [snds]; omega), HG.out⟩)
end Go.Proofs.YtcmgkmkpkklloaaDoor
