/-
  Layer 22: boxes; whether a box shows an edge.
-/
import Derived.Test.YtlkihbehiojimaaK1
import Derived.Outline
namespace Go.Proofs.Ytlkihbehiojimaa
open Go.RowKit Go.Tab Go.WideShapes

abbrev bx (b : BoxI) : Value := .agg #[.int .i64 b.lx, .int .i64 b.ly, .int .i64 b.hx, .int .i64 b.hy]
theorem right2 (b : BoxI) : rightB [(b.lx, b.ly), (b.hx, b.hy)] = (mayB b.lx b.ly && mayB b.hx b.hy) := by simp [rightB]
theorem boxright_false {b : BoxI} (h : (mayB b.lx b.ly && mayB b.hx b.hy) = false) : b.right = false := by
  unfold BoxI.right; rw [h]; rfl
theorem boxright_true {b : BoxI} (h : (mayB b.lx b.ly && mayB b.hx b.hy) = true) : b.right = (decide (b.lx ≤ b.hx) && decide (b.ly ≤ b.hy)) := by
  unfold BoxI.right; rw [h]; simp

set_option maxHeartbeats 1000000 in
theorem boxright_any (b : BoxI) (w : World) : Calls Try.prog 21 #[bx b] w (Ret (.bool b.right) w) := by
  obtain ⟨m, hm⟩ : ∃ m, m = (mayB b.lx b.ly && mayB b.hx b.hy) := ⟨_, rfl⟩
  have HR : Hid (rightB [(b.lx, b.ly), (b.hx, b.hy)] = m) := Lib.hid (by rw [right2, hm])
  have HM := Lib.hid hm
  clear hm
  obtain ⟨lx, ly, hx, hy⟩ := b
  simp only at HR HM
  go_enter Try.func21, Try.ntmps21
  go_wp2_with fail
  refine (right_any _ [(lx, ly), (hx, hy)] _ (pts_block (heap_new _ _ _ (by simp only [World.size_alloc])) rfl (by simp))).mono ?_
  rw [HR.out]
  rintro _ w' ⟨rfl, hg⟩
  obtain ⟨ho, hf⟩ := hg.old
  have Hg := Lib.hid (((((Grows.refl w).al _).al _).trans hg))
  clear hg
  cases m with
  | false =>
    go_wp2
    go_ret
    exact ⟨ret_bool (boxright_false HM.out.symm).symm, Hg.out⟩
  | true =>
    go_wp2
    all_goals
      go_ret
      exact ⟨ret_bool (by rw [boxright_true HM.out.symm]; simp_all <;> omega), Hg.out⟩

theorem cells4 {w : World} {b : Nat} {x y z u : Value} {T : TypeId} (h : w.heap[b]? = some (.cells #[x, y, z, u] T (0, 0))) :
    w.cell? ⟨b, 0, none⟩ = some x ∧ w.cell? ⟨b, 1, none⟩ = some y ∧ w.cell? ⟨b, 2, none⟩ = some z ∧ w.cell? ⟨b, 3, none⟩ = some u := by
  refine ⟨?_, ?_, ?_, ?_⟩ <;> simp [World.cell?, h]
/-- Boxed arguments, one behind the other. -/
theorem old_block {w w' : World} {o : Obj} {k : Nat} {x : Obj} (h : w.heap[k]? = some x) (hg : Grows (w.alloc o) w') : w'.heap[k]? = some x := hg.block ((Grows.alloc w o).block h)

def meetB (a b : BoxI) : Bool := a.right && b.right && decide (a.lx ≤ b.hx) && decide (b.lx ≤ a.hx) && decide (a.ly ≤ b.hy) && decide (b.ly ≤ a.hy)
set_option maxHeartbeats 2000000 in
theorem meet_any (a b : BoxI) (w : World) : Calls Try.prog 26 #[bx a, bx b] w (Ret (.bool (meetB a b)) w) := by
  have HA := Lib.hid (boxright_any a)
  have HB := Lib.hid (boxright_any b)
  obtain ⟨ra, hra⟩ : ∃ ra, ra = a.right := ⟨_, rfl⟩
  obtain ⟨rb, hrb⟩ : ∃ rb, rb = b.right := ⟨_, rfl⟩
  have HE : Hid (meetB a b = (ra && rb && decide (a.lx ≤ b.hx) && decide (b.lx ≤ a.hx) && decide (a.ly ≤ b.hy) && decide (b.ly ≤ a.hy))) := Lib.hid (by rw [hra, hrb]; rfl)
  rw [← hra] at HA
  rw [← hrb] at HB
  clear hra hrb
  obtain ⟨alx, aly, ahx, ahy⟩ := a
  obtain ⟨blx, bly, bhx, bhy⟩ := b
  simp only at HE
  have BX : Hid (∀ w', Grows ((w.alloc (.cells #[.int .i64 alx, .int .i64 aly, .int .i64 ahx, .int .i64 ahy] 26)).alloc (.cells #[.int .i64 blx, .int .i64 bly, .int .i64 bhx, .int .i64 bhy] 26)) w' →
      (w'.cell? ⟨w.heap.size, 0, none⟩ = some (.int .i64 alx) ∧ w'.cell? ⟨w.heap.size, 1, none⟩ = some (.int .i64 aly) ∧ w'.cell? ⟨w.heap.size, 2, none⟩ = some (.int .i64 ahx) ∧ w'.cell? ⟨w.heap.size, 3, none⟩ = some (.int .i64 ahy)) ∧
      (w'.cell? ⟨w.heap.size + 1, 0, none⟩ = some (.int .i64 blx) ∧ w'.cell? ⟨w.heap.size + 1, 1, none⟩ = some (.int .i64 bly) ∧ w'.cell? ⟨w.heap.size + 1, 2, none⟩ = some (.int .i64 bhx) ∧ w'.cell? ⟨w.heap.size + 1, 3, none⟩ = some (.int .i64 bhy))) := Lib.hid fun w' hg =>
    ⟨cells4 (old_block (heap_new _ _ _ rfl) hg), cells4 (hg.block (heap_new _ _ _ (by simp only [World.size_alloc])))⟩
  go_enter Try.func26, Try.ntmps26
  go_wp2_with fail
  refine (HA.out _).mono ?_
  rintro _ w' ⟨rfl, hg⟩
  have Hg := Lib.hid (((((Grows.refl w).al _).al _).trans hg))
  have HG := Lib.hid hg
  clear hg
  cases ra with
  | false =>
    go_wp2
    go_ret
    exact ⟨ret_bool (by rw [HE.out]; rfl), Hg.out⟩
  | true =>
    obtain ⟨⟨a0, a1, a2, a3⟩, b0, b1, b2, b3⟩ := BX.out _ HG.out
    go_wp2_with fail
    refine (HB.out _).mono ?_
    rintro _ w2 ⟨rfl, hg⟩
    have Hg := Lib.hid (Hg.out.trans hg)
    have HG2 := Lib.hid (HG.out.trans hg)
    clear hg a0 a1 a2 a3 b0 b1 b2 b3
    cases rb with
    | false =>
      go_wp2
      go_ret
      exact ⟨ret_bool (by rw [HE.out]; rfl), Hg.out⟩
    | true =>
      obtain ⟨⟨a0, a1, a2, a3⟩, b0, b1, b2, b3⟩ := BX.out _ HG2.out
      go_wp2
      all_goals
        go_ret
        exact ⟨ret_bool (by rw [HE.out]; clear a0 a1 a2 a3 b0 b1 b2 b3; simp_all <;> omega), Hg.out⟩
end Go.Proofs.Ytlkihbehiojimaa
