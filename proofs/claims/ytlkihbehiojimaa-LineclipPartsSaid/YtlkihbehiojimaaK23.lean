/-
  Layer 22: is an edge shown? as the document has it.
-/
import Derived.Test.YtlkihbehiojimaaBk
namespace Go.Proofs.Ytlkihbehiojimaa
open Go.RowKit Go.Tab

set_option maxRecDepth 100000 in
set_option maxHeartbeats 4000000 in
theorem rshown_any (px py qx qy : Int) (b : BoxI) (w : World) : Calls Try.prog 10 #[pt px py, pt qx qy, bx b] w (Ret (.bool (shownB px py qx qy b)) w) := by
  have H1 := Lib.hid (fun w => rmeet_any b ⟨px, py, px, py⟩ w)
  have H2 := Lib.hid (fun w => rmeet_any b ⟨qx, qy, qx, qy⟩ w)
  rw [meet_point] at H1 H2
  obtain ⟨r1, h1⟩ : ∃ r, r = b.has px py := ⟨_, rfl⟩
  obtain ⟨r2, h2⟩ : ∃ r, r = b.has qx qy := ⟨_, rfl⟩
  rw [← h1] at H1
  rw [← h2] at H2
  have HE : Hid (shownB px py qx qy b = (!(decide (px = qx ∧ py = qy)) && r1 && r2 && !(alongB px py qx qy b))) := Lib.hid (by rw [h1, h2]; rfl)
  clear h1 h2
  obtain ⟨lx, ly, hx, hy⟩ := b
  have BX : Hid (∀ w', Grows (((w.alloc (.cells #[.int .i64 px, .int .i64 py] 30)).alloc (.cells #[.int .i64 qx, .int .i64 qy] 30)).alloc (.cells #[.int .i64 lx, .int .i64 ly, .int .i64 hx, .int .i64 hy] 32)) w' →
      (w'.cell? ⟨w.heap.size, 0, none⟩ = some (.int .i64 px) ∧ w'.cell? ⟨w.heap.size, 1, none⟩ = some (.int .i64 py)) ∧ (w'.cell? ⟨w.heap.size + 1, 0, none⟩ = some (.int .i64 qx) ∧ w'.cell? ⟨w.heap.size + 1, 1, none⟩ = some (.int .i64 qy)) ∧
      (w'.cell? ⟨w.heap.size + 1 + 1, 0, none⟩ = some (.int .i64 lx) ∧ w'.cell? ⟨w.heap.size + 1 + 1, 1, none⟩ = some (.int .i64 ly) ∧ w'.cell? ⟨w.heap.size + 1 + 1, 2, none⟩ = some (.int .i64 hx) ∧ w'.cell? ⟨w.heap.size + 1 + 1, 3, none⟩ = some (.int .i64 hy))) := Lib.hid fun w' hg => by
    have b1 := hg.block ((Grows.alloc _ _).block ((Grows.alloc _ _).block (heap_new w (.cells #[.int .i64 px, .int .i64 py] 30) _ rfl)))
    have b2 := hg.block ((Grows.alloc _ _).block (heap_new (w.alloc (.cells #[.int .i64 px, .int .i64 py] 30)) (.cells #[.int .i64 qx, .int .i64 qy] 30) (w.heap.size + 1) (by simp only [World.size_alloc])))
    have b3 := hg.block (heap_new _ _ (w.heap.size + 1 + 1) (by simp only [World.size_alloc]))
    have c1 := cells2 b1
    have c2 := cells2 b2
    exact ⟨⟨c1.1, c1.2.1⟩, ⟨c2.1, c2.2.1⟩, cells4 b3⟩
  go_enter Try.func10, Try.ntmps10
  by_cases hx0 : px = qx
  · by_cases hy0 : py = qy
    · subst hx0
      subst hy0
      go_wp2
      go_ret
      exact ⟨ret_bool (by rw [HE.out]; simp), ((((Grows.refl w).al _).al _).al _)⟩
    · have hd : Hid (decide (px = qx ∧ py = qy) = false) := Lib.hid (decide_eq_false fun h => hy0 h.2)
      subst hx0
      have e1 : (py == qy) = false := by rw [beq_eq_false_iff_ne]; exact hy0
      go_wp2_with fail
      refine (H1.out _).mono ?_
      rintro _ w1 ⟨rfl, hg⟩
      have HG := Lib.hid hg
      have Hg := Lib.hid ((((Grows.refl w).al _).al _).al _ |>.trans hg)
      clear hg
      cases r1 with
      | false =>
        go_wp2
        go_ret
        exact ⟨ret_bool (by rw [HE.out, hd.out]; rfl), Hg.out⟩
      | true =>
        obtain ⟨⟨p0, p1⟩, ⟨q0, q1⟩, l0, l1, l2, l3⟩ := BX.out _ HG.out
        go_wp2_with fail
        refine (H2.out _).mono ?_
        rintro _ w2 ⟨rfl, hg⟩
        have HG := Lib.hid (HG.out.trans hg)
        have Hg := Lib.hid (Hg.out.trans hg)
        clear hg p0 p1 q0 q1 l0 l1 l2 l3
        cases r2 with
        | false =>
          go_wp2
          go_ret
          exact ⟨ret_bool (by rw [HE.out, hd.out]; rfl), Hg.out⟩
        | true =>
          obtain ⟨⟨p0, p1⟩, ⟨q0, q1⟩, l0, l1, l2, l3⟩ := BX.out _ HG.out
          go_wp2
          all_goals
            go_ret
            exact ⟨ret_bool (by rw [HE.out, hd.out]; clear p0 p1 q0 q1 l0 l1 l2 l3 HE hd; first | (simp [alongB]; done) | (simp_all [alongB]; done) | (simp [alongB]; omega) | (rw [Bool.eq_iff_iff]; simp [alongB]; omega)), Hg.out⟩
  · have hd : Hid (decide (px = qx ∧ py = qy) = false) := Lib.hid (decide_eq_false fun h => hx0 h.1)
    have e1 : (px == qx) = false := by rw [beq_eq_false_iff_ne]; exact hx0
    go_wp2_with fail
    refine (H1.out _).mono ?_
    rintro _ w1 ⟨rfl, hg⟩
    have HG := Lib.hid hg
    have Hg := Lib.hid ((((Grows.refl w).al _).al _).al _ |>.trans hg)
    clear hg
    cases r1 with
    | false =>
      go_wp2
      go_ret
      exact ⟨ret_bool (by rw [HE.out, hd.out]; rfl), Hg.out⟩
    | true =>
      obtain ⟨⟨p0, p1⟩, ⟨q0, q1⟩, l0, l1, l2, l3⟩ := BX.out _ HG.out
      go_wp2_with fail
      refine (H2.out _).mono ?_
      rintro _ w2 ⟨rfl, hg⟩
      have HG := Lib.hid (HG.out.trans hg)
      have Hg := Lib.hid (Hg.out.trans hg)
      clear hg p0 p1 q0 q1 l0 l1 l2 l3
      cases r2 with
      | false =>
        go_wp2
        go_ret
        exact ⟨ret_bool (by rw [HE.out, hd.out]; rfl), Hg.out⟩
      | true =>
        obtain ⟨⟨p0, p1⟩, ⟨q0, q1⟩, l0, l1, l2, l3⟩ := BX.out _ HG.out
        go_wp2
        all_goals
          go_ret
          exact ⟨ret_bool (by rw [HE.out, hd.out]; clear p0 p1 q0 q1 l0 l1 l2 l3 HE hd; first | (simp [alongB]; done) | (simp_all [alongB]; done) | (simp [alongB]; omega) | (rw [Bool.eq_iff_iff]; simp [alongB]; omega)), Hg.out⟩
end Go.Proofs.Ytlkihbehiojimaa
