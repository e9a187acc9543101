/-
  Layer 9: the library's builder: a rune.
-/
import Derived.Test.YtcmgkmkpkklloaaDoorT10
import Derived.Test.YtcmgkmkpkklloaaDoorSh
namespace Go.Proofs.YtcmgkmkpkklloaaDoor
open Go.RowKit Go.Tab Go.WideShapes

theorem slice_of {w : World} {b n : Nat} {v : Value} {xs : List Value} (h : w.ownsRowF b 5 1 v n xs) : ∃ ao cap, v = .slice ao n cap := by
  rcases h.2 with ⟨hv, h0⟩ | ⟨g, cap, cur, fz, hv, _⟩
  · exact ⟨none, 0, by rw [hv, h0]⟩
  · exact ⟨_, _, hv⟩

set_option maxHeartbeats 2000000 in
set_option maxRecDepth 100000 in
theorem wrune_any (b : Nat) (l : List UInt8) (r : Int) (w : World) (h : Holds b l w) (hl : l.length ≤ 1000000) (hr0 : -2147483648 ≤ r) (hr1 : r ≤ 2147483647) :
    Calls Tryd.prog 32 #[.pointer (some ⟨b, 0, none⟩), .int .i32 r] w fun e w' => e = .returned (.tuple #[.int .i64 ((Lib.encodeRune r).length : Int), .nilIface]) ∧ Holds b (l ++ Lib.encodeRune r) w' ∧ Kept b w w' := by
  have HC := Lib.hid (chk_any b _ w h)
  have HA := Lib.hid (fun v n xs w hown hlen hBw => Tryd.utf8_AppendRune_row b v n xs r hr0 hr1 w hown hlen hBw)
  have HE := Lib.hid (Lib.byteCells_encodeRune r)
  have HE2 := Lib.hid (Lib.runeCells_length r)
  have HE3 := Lib.hid (Lib.runeCells_le r)
  clear h
  generalize Lib.encodeRune r = er at HE HE2 ⊢
  generalize Lib.runeCells r = rc at HA HE HE2 HE3
  obtain ⟨k, hk⟩ : ∃ k, k = er.length := ⟨_, rfl⟩
  rw [← hk] at HE2 ⊢
  have HEL := Lib.hid hk
  clear hk
  obtain ⟨m, hm⟩ : ∃ m, m = l.length := ⟨_, rfl⟩
  rw [← hm] at hl
  have HLM := Lib.hid hm
  clear hm
  go_enter Tryd.func32, Tryd.ntmps32
  go_wp2_with fail
  refine HC.out.mono ?_
  rintro e w1 ⟨rfl, ⟨hB, v, hbk, hown, hne⟩, hb1, hk1⟩
  rw [Lib.byteCells_length, ← HLM.out] at hown
  have hlt : b < w1.heap.size := (Array.getElem?_eq_some_iff.1 hbk).1
  obtain ⟨ao, cap, rfl⟩ := slice_of hown
  have c1 : w1.cell? ⟨b, 1, none⟩ = some (.slice ao m cap) := by rw [Lib.cell_of_heap hbk]; rfl
  go_wp2_with fail
  refine (HA.out _ _ _ _ hown (by omega) (by omega)).mono ?_
  rintro _ w2 ⟨v', rfl, hown', o, hgrow⟩
  have hb2 : w2.heap[b]? = some (.cells #[.pointer (some ⟨b, 0, none⟩), .slice ao m cap] 60 (0, 0)) := by
    rw [hgrow.block b (by simp; omega) (fun e => hne e.symm), Lib.alloc_old w1 _ b hlt]
    exact hbk
  have f1 : w2.frozen? ⟨b, 1, none⟩ = false := Lib.frozen_of_heap hb2 1
  have d1 : w2.cell? ⟨b, 1, none⟩ = some (.slice ao m cap) := by rw [Lib.cell_of_heap hb2]; rfl
  have HB : Hid (Holds b (l ++ er) (w2.setCell ⟨b, 1, none⟩ v')) := Lib.hid (.inr (Lib.BuilderAtF.put hB hb2 (by rw [Lib.byteCells_append, List.length_append, Lib.byteCells_length, HE.out, ← HLM.out]; exact hown') (by decide)))
  have HK : Hid (Kept b w (w2.setCell ⟨b, 1, none⟩ v')) := Lib.hid ⟨((hb1.alloc (by omega) _).grown hgrow (by simp; omega) (fun k hk => (hown.lt k hk).1)).setCell (p := ⟨b, 1, none⟩) hB _, ((hk1.alloc _).grown hgrow (Lib.ownsRowF_kind (hown.alloc _))).setCell ⟨b, 1, none⟩ rfl _⟩
  obtain ⟨ao', cap', rfl⟩ := slice_of hown'
  clear hgrow hb1 hk1 hown hown'
  have hl2 : k ≤ 4 := by rw [← HE2.out]; exact HE3.out.2
  rw [HE2.out] at HB HK ⊢
  clear HE HE2 HE3 HA HC HEL HLM
  have e1 : ((m + k : Nat) : Int) - (m : Int) = (k : Int) := by omega
  go_wp2
  go_ret2
  exact ⟨by first | rfl | (simp; omega), HB.out, HK.out⟩
end Go.Proofs.YtcmgkmkpkklloaaDoor
