/-
  Layer 2: the chapter's example.
-/
import Derived.Test.YtlgplhanhnjeiaaS11
namespace Go.Proofs.Ytlgplhanhnjeiaa
open Go.RowKit Go.Tab Go.Sort

theorem cuts_ex : cutsF (0, 0) (5, 3) [2, 4] [1] = [((2, 1), 2, 5), ((4, 2), 4, 5), ((2, 1), 1, 3)] := by decide
theorem cls_ex1 : clsP (0, 0) (4, 4) (0, 4) (4, 0) = (3, 0) := by decide
theorem cls_ex2 : clsP (0, 0) (4, 0) (2, 0) (2, 3) = (2, 0) := by decide
theorem ins_ex : (insC #[((2, 1), 2, 5), ((4, 2), 4, 5), ((2, 1), 1, 3)] 0 3).toList = [((2, 1), 1, 3), ((2, 1), 2, 5), ((4, 2), 4, 5)] := by
  unfold insC Sort.insertionSort
  rw [insOuter, if_pos (by decide), insOuter, if_pos (by decide), insOuter, if_neg (by decide)]
  kernel_rfl
theorem ded_ex : dedF (5, 3) (0, 0) [((2, 1), 1, 3), ((2, 1), 2, 5), ((4, 2), 4, 5)] = [(2, 1), (4, 2)] := by decide

set_option maxRecDepth 100000 in
set_option maxHeartbeats 2000000 in
theorem kn_any (w : World) : Calls Try.prog 12 #[] w (Ret (.bool true) w) := by
  have C1 := Lib.hid (fun w => class_any (0, 0) (4, 4) (0, 4) (4, 0) w)
  have C2 := Lib.hid (fun w => class_any (0, 0) (4, 0) (2, 0) (2, 3) w)
  rw [cls_ex1] at C1
  rw [cls_ex2] at C2
  have HS := Lib.hid (fun B o W (h : W.ownsRow B 61 4 o (cutsF (0, 0) (5, 3) [2, 4] [1]).length (ccells (cutsF (0, 0) (5, 3) [2, 4] [1]))) => sortStable_small o _ B W h (by decide) (by decide))
  rw [cuts_ex] at HS
  have CU := Lib.hid (fun w v u hx hy => Cuts_of (0, 0) (5, 3) v u [2, 4] [1] [((2, 1), 1, 3), ((2, 1), 2, 5), ((4, 2), 4, 5)] w hx hy (by decide) (by decide) (by decide) (by
    rw [cuts_ex]
    intro B o W h
    have := HS.out B o W h
    rw [show (insC [((2, 1), 2, 5), ((4, 2), 4, 5), ((2, 1), 1, 3)].toArray 0 [(((2, 1) : Pt), (2 : Int), (5 : Int)), ((4, 2), 4, 5), ((2, 1), 1, 3)].length).toList = _ from ins_ex] at this
    exact this))
  rw [ded_ex] at CU
  clear HS
  unfold pp at C1 C2 CU
  simp only at C1 C2 CU
  go_enter Try.func12, Try.ntmps12
  go_wp2_with fail
  refine (C1.out _).mono ?_
  rintro _ w1 ⟨rfl, hg1⟩
  go_wp2_with fail
  refine (C2.out _).mono ?_
  rintro _ w2 ⟨rfl, hg2⟩
  have G := Lib.hid (hg1.trans hg2)
  clear hg1 hg2
  go_wp2_with fail
  have I1 := ints_block (l := [2, 4]) ((Grows.alloc _ (.cells #[iv 1] 3)).block (heap_new w2 (.cells #[iv 2, iv 4] 3) _ rfl)) rfl (by decide)
  have I2 := ints_block (l := [1]) (heap_new (w2.alloc (.cells #[iv 2, iv 4] 3)) (.cells #[iv 1] 3) (w2.heap.size + 1) (by simp)) rfl (by decide)
  refine (CU.out _ _ _ I1 I2).mono ?_
  rintro _ w3 ⟨o, rfl, HO, hg⟩
  obtain ⟨-, ⟨-, h0⟩ | ⟨g, cap, cur, rfl, hgb, hh, hnc, -⟩⟩ := id HO
  · cases h0
  have hP := own_pts HO rfl (by decide)
  have k0 : w3.cell? ⟨g, 0, none⟩ = some (iv 2) := HO.cellAt 0 (by decide)
  have k1 : w3.cell? ⟨g, 1, none⟩ = some (iv 1) := HO.cellAt 1 (by decide)
  have k2 : w3.cell? ⟨g, 2, none⟩ = some (iv 4) := HO.cellAt 2 (by decide)
  have k3 : w3.cell? ⟨g, 3, none⟩ = some (iv 2) := HO.cellAt 3 (by decide)
  have G3 := Lib.hid (((G.out.al _).al _).trans hg)
  clear hg hP HO hh hnc hgb I1 I2 G
  simp only [List.length_cons, List.length_nil]
  go_wp2
  go_ret
  exact ⟨rfl, G3.out⟩
end Go.Proofs.Ytlgplhanhnjeiaa
