/-
  The document's boxes: which are right, and which meet.
-/
import Derived.Test.YtlkihbehiojimaaK3
import Derived.Deep.QuietTactic
import Derived.BigQuiet
namespace Go.Proofs.Ytlkihbehiojimaa
open Go.RowKit Go.Tab Go.WideShapes

set_option maxHeartbeats 1000000 in
theorem rboxright_any (b : BoxI) (w : World) : Calls Try.prog 34 #[bx b] w (Ret (.bool b.right) w) := by
  obtain ⟨lx, ly, hx, hy⟩ := b
  have H1 := Lib.hid (fun w => may_any lx ly w)
  have H2 := Lib.hid (fun w => may_any hx hy w)
  have HE : Hid ((BoxI.mk lx ly hx hy).right = (mayB lx ly && mayB hx hy && decide (lx ≤ hx) && decide (ly ≤ hy))) := Lib.hid rfl
  generalize (BoxI.mk lx ly hx hy).right = R at HE ⊢
  generalize mayB lx ly = m1 at H1 HE
  generalize mayB hx hy = m2 at H2 HE
  have BX : Hid (∀ w', Grows (w.alloc (.cells #[.int .i64 lx, .int .i64 ly, .int .i64 hx, .int .i64 hy] 32)) w' →
      (w'.cell? ⟨w.heap.size, 0, none⟩ = some (.int .i64 lx) ∧ w'.cell? ⟨w.heap.size, 1, none⟩ = some (.int .i64 ly) ∧ w'.cell? ⟨w.heap.size, 2, none⟩ = some (.int .i64 hx) ∧ w'.cell? ⟨w.heap.size, 3, none⟩ = some (.int .i64 hy)) ∧ Grows w w') :=
    Lib.hid fun w' hg => ⟨cells4 (hg.block (heap_new _ _ _ rfl)), ((Grows.refl w).al _).trans hg⟩
  go_enter Try.func34, Try.ntmps34
  go_wp2_with fail
  refine (H1.out _).mono ?_
  rintro _ w1 ⟨rfl, hg⟩
  have G := Lib.hid hg
  clear hg
  cases m1 with
  | false =>
    go_wp2
    go_ret
    exact ⟨ret_bool (by rw [HE.out]; rfl), (BX.out _ G.out).2⟩
  | true =>
    obtain ⟨⟨a0, a1, a2, a3⟩, _⟩ := BX.out _ G.out
    go_wp2_with fail
    refine (H2.out _).mono ?_
    rintro _ w2 ⟨rfl, hg⟩
    have G2 := Lib.hid (G.out.trans hg)
    clear hg a0 a1 a2 a3
    cases m2 with
    | false =>
      go_wp2
      go_ret
      exact ⟨ret_bool (by rw [HE.out]; rfl), (BX.out _ G2.out).2⟩
    | true =>
      obtain ⟨⟨a0, a1, a2, a3⟩, _⟩ := BX.out _ G2.out
      go_wp2
      all_goals
        go_ret
        exact ⟨ret_bool (by rw [HE.out]; clear a0 a1 a2 a3; simp_all <;> omega), (BX.out _ G2.out).2⟩

theorem Grows.drewN (w : World) (n : Nat) : Grows w (w.drewN n) := ⟨rfl, rfl, rfl, Nat.le_refl _, fun _ _ => rfl⟩
set_option maxHeartbeats 2000000 in
theorem rmeet_any (a b : BoxI) (w : World) : Calls Try.prog 27 #[bx a, bx b] w (Ret (.bool (meetB a b)) w) := by
  have HA := Lib.hid (rboxright_any a)
  have HB := Lib.hid (rboxright_any b)
  have HE : Hid (meetB a b = (a.right && b.right && decide (a.lx ≤ b.hx) && decide (b.lx ≤ a.hx) && decide (a.ly ≤ b.hy) && decide (b.ly ≤ a.hy))) := Lib.hid rfl
  have H1 : Hid (a.right = true → a.lx ≤ a.hx ∧ a.ly ≤ a.hy) := Lib.hid fun h => (BoxI.right_iff.1 h).2.2
  have H2 : Hid (b.right = true → b.lx ≤ b.hx ∧ b.ly ≤ b.hy) := Lib.hid fun h => (BoxI.right_iff.1 h).2.2
  generalize a.right = ra at HA HE H1
  generalize b.right = rb at HB HE H2
  generalize meetB a b = M at HE ⊢
  obtain ⟨alx, aly, ahx, ahy⟩ := a
  obtain ⟨blx, bly, bhx, bhy⟩ := b
  simp only at HE H1 H2
  have BX : Hid (∀ w', Grows ((w.alloc (.cells #[.int .i64 alx, .int .i64 aly, .int .i64 ahx, .int .i64 ahy] 32)).alloc (.cells #[.int .i64 blx, .int .i64 bly, .int .i64 bhx, .int .i64 bhy] 32)) w' →
      (w'.cell? ⟨w.heap.size, 0, none⟩ = some (.int .i64 alx) ∧ w'.cell? ⟨w.heap.size, 1, none⟩ = some (.int .i64 aly) ∧ w'.cell? ⟨w.heap.size, 2, none⟩ = some (.int .i64 ahx) ∧ w'.cell? ⟨w.heap.size, 3, none⟩ = some (.int .i64 ahy)) ∧
      (w'.cell? ⟨w.heap.size + 1, 0, none⟩ = some (.int .i64 blx) ∧ w'.cell? ⟨w.heap.size + 1, 1, none⟩ = some (.int .i64 bly) ∧ w'.cell? ⟨w.heap.size + 1, 2, none⟩ = some (.int .i64 bhx) ∧ w'.cell? ⟨w.heap.size + 1, 3, none⟩ = some (.int .i64 bhy)) ∧ Grows w w') := Lib.hid fun w' hg =>
    ⟨cells4 (old_block (heap_new _ _ _ rfl) hg), cells4 (hg.block (heap_new _ _ _ (by simp only [World.size_alloc]))), (((Grows.refl w).al _).al _).trans hg⟩
  go_enter Try.func27, Try.ntmps27
  go_wp2_with fail
  refine (HA.out _).mono ?_
  rintro _ w1 ⟨rfl, hg⟩
  have G := Lib.hid hg
  clear hg
  cases ra with
  | false =>
    go_wp2
    go_ret
    exact ⟨ret_bool (by rw [HE.out]; rfl), (BX.out _ G.out).2.2⟩
  | true =>
    obtain ⟨_, ⟨b0, b1, b2, b3⟩, _⟩ := BX.out _ G.out
    go_wp2_with fail
    refine (HB.out _).mono ?_
    rintro _ w2 ⟨rfl, hg⟩
    have G2 := Lib.hid (G.out.trans hg)
    clear hg b0 b1 b2 b3
    cases rb with
    | false =>
      go_wp2
      go_ret
      exact ⟨ret_bool (by rw [HE.out]; rfl), (BX.out _ G2.out).2.2⟩
    | true =>
      obtain ⟨⟨a0, a1, a2, a3⟩, ⟨b0, b1, b2, b3⟩, _⟩ := BX.out _ G2.out
      have hmax : ∀ a b : Int, (if a < b then b else a) = max a b := fun a b => by rw [Int.max_def]; split <;> split <;> omega
      have hmin : ∀ a b : Int, (if b < a then b else a) = min a b := fun a b => by rw [Int.min_def]; split <;> split <;> omega
      go_wp2
      go_quiet (fail)
      rename_i n1
      go_wp2
      go_quiet (fail)
      rename_i n2
      clear hmax hmin
      go_wp2
      all_goals
        go_ret
        exact ⟨ret_bool (by rw [HE.out]; have h1 := H1.out trivial; have h2 := H2.out trivial; clear a0 a1 a2 a3 b0 b1 b2 b3; first | (rw [Bool.eq_iff_iff]; simp; omega) | (rw [eq_comm, ← Bool.not_eq_true]; simp; omega)), ((BX.out _ G2.out).2.2).trans (Grows.drewN _ _)⟩
end Go.Proofs.Ytlkihbehiojimaa
