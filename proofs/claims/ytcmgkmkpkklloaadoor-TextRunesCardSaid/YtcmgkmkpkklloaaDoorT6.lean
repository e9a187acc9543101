/-
  Layer 9: how many runes; whether a text is right.
-/
import Derived.Test.YtcmgkmkpkklloaaDoorT5
import Derived.Laws.RangeAny
namespace Go.Proofs.YtcmgkmkpkklloaaDoor
open Go.RowKit Go.Tab Go.WideShapes

def rightT (s : ByteArray) : Bool := (runesW s 0).isSome
def cntT (s : ByteArray) : Nat := ((runesW s 0).getD []).length
theorem Grows.iterAt {w w' : World} (h : Grows w w') (s : ByteArray) (p : Nat) : Grows w (w'.iterAt w.heap.size s p) :=
  ⟨h.os, h.tape, h.output, by simpa [World.iterAt] using h.size, fun k hk => (Lib.iterAt_other w' w.heap.size k s p (by omega)).trans (h.5 k hk)⟩
theorem iterPos_of {w : World} {k p : Nat} {s : ByteArray} (h : w.heap[k]? = some (.stringIter s p)) : w.iterPos k = p := by simp [World.iterPos, h]

set_option maxRecDepth 100000 in
set_option maxHeartbeats 4000000 in
theorem count_any (s : ByteArray) (w : World) (hs : s.size ≤ 1000) (hT : Tabs w) : Calls Tryd.prog 9 #[.string s] w (Ret (.tuple #[.int .i64 (cntT s), .bool (rightT s)]) w) := by
  have HT := Lib.hid hT
  clear hT
  have G0 : Hid (Grows w (w.iter s 0)) := Lib.hid (Grows.alloc _ _)
  have I0 : Hid ((w.iter s 0).heap[w.heap.size]? = some (.stringIter s 0)) := Lib.hid (World.iter_heap w s 0)
  go_enter Tryd.func9, Tryd.ntmps9
  go_wp2
  go_loopw [4] (fun c wr => ∃ (pos : Nat) (acc : List (Nat × Nat)), c = .int .i64 (acc.length : Int) ∧ pos ≤ s.size ∧ acc.length ≤ pos ∧ Hid (Upto s acc pos) ∧ Hid (wr.heap[w.heap.size]? = some (.stringIter s pos)) ∧ Hid (Grows w wr)) (fun _ w' => s.size - w'.iterPos w.heap.size)
  case atStart => exact ⟨0, [], rfl, Nat.zero_le _, Nat.le_refl _, Lib.hid (Upto.zero s), I0, G0⟩
  case round =>
    clear I0 G0
    obtain ⟨pos, acc, rfl, hp, hal, HU, HI, HG⟩ := hrel
    have HPOS := Lib.hid (iterPos_of HI.out)
    by_cases hlt : pos < s.size
    · have hnx : ∀ ty, (Instr.next (.pointer (some ⟨w.heap.size, 0, none⟩)) true ty).run Tryd.prog wr = _ := fun ty => Lib.run_next_any_at wr w.heap.size s pos ty HI.out hlt
      have HI2 := Lib.hid (Lib.iterAt_heap wr w.heap.size s pos (pos + (Utf8.decode s pos).2) HI.out)
      have HG2 := Lib.hid (Grows.iterAt HG.out s (pos + (Utf8.decode s pos).2))
      have HWR := Lib.hid (fun w' hT => wrong_any s pos w' hs hlt hT)
      have HW := Lib.hid (first_width hlt)
      have HS1 := Lib.hid (fun h => HU.out.step hlt h)
      have HB1 := Lib.hid (fun h => HU.out.bad hlt h)
      have HDR := Lib.hid (fun h => dec_right hlt h)
      go_wp2_with fail
      refine (HWR.out _ (HT.out.grows HG2.out)).mono ?_
      rintro _ wf ⟨rfl, hg⟩
      have HG3 := Lib.hid (HG2.out.trans hg)
      have HI3 := Lib.hid (hg.block HI2.out)
      clear hg HI2 HG2 hnx HWR
      by_cases hn : (firstF s pos).2 = 0
      · have HN := Lib.hid (HB1.out hn)
        rw [decide_eq_true hn]
        clear hn
        go_wp2
        go_ret2
        exact ⟨by unfold cntT rightT; rw [HN.out]; rfl, HG3.out⟩
      · rw [decide_eq_false hn]
        have HS2 := Lib.hid (HS1.out hn)
        have hd := HDR.out hn
        rw [hd] at HI3
        have hw := HW.out
        have HWD : Hid (1 ≤ (firstF s pos).2) := Lib.hid (by omega)
        clear hn hd HDR HS1 HB1
        generalize firstF s pos = d at HS2 HI3 hw HWD
        obtain ⟨r, n⟩ := d
        simp only at HS2 HI3 hw HWD
        go_wp2
        exact ⟨⟨pos + n, acc ++ [(r, pos)], by simp, hw, by rw [List.length_append]; show acc.length + 1 ≤ _; have := HWD.out; omega, HS2, HI3, HG3⟩, by rw [iterPos_of HI3.out, HPOS.out]; have := HWD.out; omega⟩
    · have hnx : ∀ ty, (Instr.next (.pointer (some ⟨w.heap.size, 0, none⟩)) true ty).run Tryd.prog wr = _ := fun ty => Lib.run_next_end_at wr w.heap.size s pos ty HI.out hlt
      have HN := Lib.hid (HU.out.fin hlt)
      go_wp2
      go_ret2
      exact ⟨by unfold cntT rightT; rw [HN.out]; rfl, HG.out⟩
theorem right_any (s : ByteArray) (w : World) (hs : s.size ≤ 1000) (hT : Tabs w) : Calls Tryd.prog 11 #[.string s] w (Ret (.bool (rightT s)) w) := by
  have HC := Lib.hid (count_any s w hs hT)
  generalize cntT s = n at HC
  generalize rightT s = b at HC ⊢
  go_enter Tryd.func11, Tryd.ntmps11
  go_wp2_with fail
  refine HC.out.mono ?_
  rintro _ w1 ⟨rfl, hg⟩
  go_wp2
  go_ret
  exact ⟨rfl, hg⟩
end Go.Proofs.YtcmgkmkpkklloaaDoor
