/-
  Layer 22: whether a box shows an edge; the cuts of a segment.
-/
import Derived.Test.YtlkihbehiojimaaK2
import Derived.Test.YtlkihbehiojimaaE8
namespace Go.Proofs.Ytlkihbehiojimaa
open Go.RowKit Go.Tab Go.WideShapes

theorem meet_point (b : BoxI) (px py : Int) : meetB b ⟨px, py, px, py⟩ = b.has px py := by
  unfold meetB BoxI.has
  rw [Bool.eq_iff_iff]
  simp only [Bool.and_eq_true, decide_eq_true_eq, BoxI.right_iff]
  constructor
  · rintro ⟨⟨⟨⟨⟨h1, h2⟩, h3⟩, h4⟩, h5⟩, h6⟩
    exact ⟨⟨⟨⟨⟨h1, h2.1⟩, h3⟩, h4⟩, h5⟩, h6⟩
  · rintro ⟨⟨⟨⟨⟨h1, h2⟩, h3⟩, h4⟩, h5⟩, h6⟩
    exact ⟨⟨⟨⟨⟨h1, h2, h2, Int.le_refl _, Int.le_refl _⟩, h3⟩, h4⟩, h5⟩, h6⟩
set_option maxHeartbeats 1000000 in
theorem in_any (px py : Int) (b : BoxI) (w : World) : Calls Try.prog 28 #[pt px py, bx b] w (Ret (.bool (b.has px py)) w) := by
  have HM := Lib.hid (fun w => (meet_point b px py) ▸ meet_any b ⟨px, py, px, py⟩ w)
  generalize b.has px py = r at HM
  obtain ⟨lx, ly, hx, hy⟩ := b
  go_enter Try.func28, Try.ntmps28
  go_wp2_with fail
  refine (HM.out _).mono ?_
  rintro _ w' ⟨rfl, hg⟩
  have Hg := Lib.hid (((((Grows.refl w).al _).al _).trans hg))
  clear hg
  go_wp2
  go_ret
  exact ⟨rfl, Hg.out⟩
set_option maxHeartbeats 4000000 in
theorem along_any (px py qx qy : Int) (b : BoxI) (w : World) : Calls Try.prog 29 #[pt px py, pt qx qy, bx b] w (Ret (.bool (alongB px py qx qy b)) w) := by
  obtain ⟨lx, ly, hx, hy⟩ := b
  go_enter Try.func29, Try.ntmps29
  go_wp2
  all_goals
    go_ret
    exact ⟨ret_bool (by rw [Bool.eq_iff_iff, alongB_iff]; first | (simp; omega) | (simp; done) | omega), ((((Grows.refl w).al _).al _).al _)⟩

theorem pt_cases (a b c d : Int) : (a = c ∧ b = d) ∨ ¬ (a = c ∧ b = d) := by omega
set_option maxHeartbeats 4000000 in
theorem shown_any (px py qx qy : Int) (b : BoxI) (w : World) : Calls Try.prog 11 #[pt px py, pt qx qy, bx b] w (Ret (.bool (shownB px py qx qy b)) w) := by
  have H1 := Lib.hid (in_any px py b)
  have H2 := Lib.hid (in_any qx qy b)
  have H3 := Lib.hid (along_any px py qx qy b)
  obtain ⟨r1, h1⟩ : ∃ r, r = b.has px py := ⟨_, rfl⟩
  obtain ⟨r2, h2⟩ : ∃ r, r = b.has qx qy := ⟨_, rfl⟩
  obtain ⟨r3, h3⟩ : ∃ r, r = alongB px py qx qy b := ⟨_, rfl⟩
  rw [← h1] at H1
  rw [← h2] at H2
  rw [← h3] at H3
  have HE : Hid (shownB px py qx qy b = (!(decide (px = qx ∧ py = qy)) && r1 && r2 && !r3)) := Lib.hid (by rw [h1, h2, h3]; rfl)
  clear h1 h2 h3
  obtain ⟨lx, ly, hx, hy⟩ := b
  have BX : Hid (∀ w', Grows (((w.alloc (.cells #[.int .i64 px, .int .i64 py] 24)).alloc (.cells #[.int .i64 qx, .int .i64 qy] 24)).alloc (.cells #[.int .i64 lx, .int .i64 ly, .int .i64 hx, .int .i64 hy] 26)) w' →
      (w'.cell? ⟨w.heap.size, 0, none⟩ = some (.int .i64 px) ∧ w'.cell? ⟨w.heap.size, 1, none⟩ = some (.int .i64 py)) ∧ (w'.cell? ⟨w.heap.size + 1, 0, none⟩ = some (.int .i64 qx) ∧ w'.cell? ⟨w.heap.size + 1, 1, none⟩ = some (.int .i64 qy)) ∧
      (w'.cell? ⟨w.heap.size + 1 + 1, 0, none⟩ = some (.int .i64 lx) ∧ w'.cell? ⟨w.heap.size + 1 + 1, 1, none⟩ = some (.int .i64 ly) ∧ w'.cell? ⟨w.heap.size + 1 + 1, 2, none⟩ = some (.int .i64 hx) ∧ w'.cell? ⟨w.heap.size + 1 + 1, 3, none⟩ = some (.int .i64 hy))) := Lib.hid fun w' hg => by
    have b1 := hg.block ((Grows.alloc _ _).block ((Grows.alloc _ _).block (heap_new w (.cells #[.int .i64 px, .int .i64 py] 24) _ rfl)))
    have b2 := hg.block ((Grows.alloc _ _).block (heap_new (w.alloc (.cells #[.int .i64 px, .int .i64 py] 24)) (.cells #[.int .i64 qx, .int .i64 qy] 24) (w.heap.size + 1) (by simp only [World.size_alloc])))
    have b3 := hg.block (heap_new _ _ (w.heap.size + 1 + 1) (by simp only [World.size_alloc]))
    have c1 := cells2 b1
    have c2 := cells2 b2
    exact ⟨⟨c1.1, c1.2.1⟩, ⟨c2.1, c2.2.1⟩, cells4 b3⟩
  go_enter Try.func11, Try.ntmps11
  by_cases hx0 : px = qx
  · by_cases hy0 : py = qy
    · subst hx0
      subst hy0
      go_wp2
      go_ret
      exact ⟨ret_bool (by rw [HE.out]; simp), ((((Grows.refl w).al _).al _).al _)⟩
    · have hd : Hid (decide (px = qx ∧ py = qy) = false) := Lib.hid (decide_eq_false fun h => hy0 h.2)
      subst hx0
      have e1 : (py == qy) = false := by rw [beq_eq_false_iff_ne]; exact hy0
      go_wp2_with fail
      refine (H1.out _).mono ?_
      rintro _ w1 ⟨rfl, hg⟩
      have HG := Lib.hid hg
      have Hg := Lib.hid ((((Grows.refl w).al _).al _).al _ |>.trans hg)
      clear hg
      cases r1 with
      | false =>
        go_wp2
        go_ret
        exact ⟨ret_bool (by rw [HE.out, hd.out]; rfl), Hg.out⟩
      | true =>
        obtain ⟨⟨p0, p1⟩, ⟨q0, q1⟩, l0, l1, l2, l3⟩ := BX.out _ HG.out
        go_wp2_with fail
        refine (H2.out _).mono ?_
        rintro _ w2 ⟨rfl, hg⟩
        have HG := Lib.hid (HG.out.trans hg)
        have Hg := Lib.hid (Hg.out.trans hg)
        clear hg p0 p1 q0 q1 l0 l1 l2 l3
        cases r2 with
        | false =>
          go_wp2
          go_ret
          exact ⟨ret_bool (by rw [HE.out, hd.out]; rfl), Hg.out⟩
        | true =>
          obtain ⟨⟨p0, p1⟩, ⟨q0, q1⟩, l0, l1, l2, l3⟩ := BX.out _ HG.out
          go_wp2_with fail
          refine (H3.out _).mono ?_
          rintro _ w3 ⟨rfl, hg⟩
          have Hg := Lib.hid (Hg.out.trans hg)
          clear hg p0 p1 q0 q1 l0 l1 l2 l3
          go_wp2
          go_ret
          exact ⟨ret_bool (by rw [HE.out, hd.out]; rfl), Hg.out⟩
  · have hd : Hid (decide (px = qx ∧ py = qy) = false) := Lib.hid (decide_eq_false fun h => hx0 h.1)
    have e1 : (px == qx) = false := by rw [beq_eq_false_iff_ne]; exact hx0
    go_wp2_with fail
    refine (H1.out _).mono ?_
    rintro _ w1 ⟨rfl, hg⟩
    have HG := Lib.hid hg
    have Hg := Lib.hid ((((Grows.refl w).al _).al _).al _ |>.trans hg)
    clear hg
    cases r1 with
    | false =>
      go_wp2
      go_ret
      exact ⟨ret_bool (by rw [HE.out, hd.out]; rfl), Hg.out⟩
    | true =>
      obtain ⟨⟨p0, p1⟩, ⟨q0, q1⟩, l0, l1, l2, l3⟩ := BX.out _ HG.out
      go_wp2_with fail
      refine (H2.out _).mono ?_
      rintro _ w2 ⟨rfl, hg⟩
      have HG := Lib.hid (HG.out.trans hg)
      have Hg := Lib.hid (Hg.out.trans hg)
      clear hg p0 p1 q0 q1 l0 l1 l2 l3
      cases r2 with
      | false =>
        go_wp2
        go_ret
        exact ⟨ret_bool (by rw [HE.out, hd.out]; rfl), Hg.out⟩
      | true =>
        obtain ⟨⟨p0, p1⟩, ⟨q0, q1⟩, l0, l1, l2, l3⟩ := BX.out _ HG.out
        go_wp2_with fail
        refine (H3.out _).mono ?_
        rintro _ w3 ⟨rfl, hg⟩
        have Hg := Lib.hid (Hg.out.trans hg)
        clear hg p0 p1 q0 q1 l0 l1 l2 l3
        go_wp2
        go_ret
        exact ⟨ret_bool (by rw [HE.out, hd.out]; rfl), Hg.out⟩

/-- Does a line cut a segment strictly between its ends? -/
def cutB (ax ay bx_ b_y c : Int) : Bool := mayB ax ay && mayB bx_ b_y && decide (min ax bx_ < c) && decide (c < max ax bx_)
def atxV (ax ay bx_ b_y c : Int) : Int := if ax ≤ bx_ then roundP (ay * (bx_ - ax) + (c - ax) * (b_y - ay)) (bx_ - ax) else roundP (b_y * (ax - bx_) + (c - bx_) * (ay - b_y)) (ax - bx_)
def atxP (ax ay bx_ b_y c : Int) : Int := if cutB ax ay bx_ b_y c = true then atxV ax ay bx_ b_y c else 0
theorem ret_pair {a b : Int} {x y : Bool} (h : a = b) (h2 : x = y) : Ending.returned (pair a x) = .returned (pair b y) := by rw [h, h2]

set_option maxHeartbeats 4000000 in
/-- The ends in order. -/
theorem atx_rises (ax ay bx_ b_y c : Int) (w : World) (hle : ax ≤ bx_) : Calls Try.prog 22 #[pt ax ay, pt bx_ b_y, .int .i64 c] w (Ret (pair (atxP ax ay bx_ b_y c) (cutB ax ay bx_ b_y c)) w) := by
  obtain ⟨m, hm⟩ : ∃ m, m = (mayB ax ay && mayB bx_ b_y) := ⟨_, rfl⟩
  have HR : Hid (rightB [(ax, ay), (bx_, b_y)] = m) := Lib.hid (by rw [hm]; simp [rightB])
  have BX : Hid (∀ w', Grows ((w.alloc (.cells #[.int .i64 ax, .int .i64 ay] 24)).alloc (.cells #[.int .i64 bx_, .int .i64 b_y] 24)) w' →
      w'.cell? ⟨w.heap.size, 0, none⟩ = some (.int .i64 ax) ∧ w'.cell? ⟨w.heap.size, 1, none⟩ = some (.int .i64 ay) ∧ w'.cell? ⟨w.heap.size + 1, 0, none⟩ = some (.int .i64 bx_) ∧ w'.cell? ⟨w.heap.size + 1, 1, none⟩ = some (.int .i64 b_y)) := Lib.hid fun w' hg => box2 hg
  go_enter Try.func22, Try.ntmps22
  go_wp2_with fail
  refine (right_any _ [(ax, ay), (bx_, b_y)] _ (pts_block (heap_new _ _ _ (by simp only [World.size_alloc])) rfl (by simp))).mono ?_
  rw [HR.out]
  rintro _ w' ⟨rfl, hg⟩
  have HG := Lib.hid ((Grows.alloc _ _).trans hg)
  have Hg := Lib.hid ((((Grows.refl w).al _).al _).trans ((Grows.alloc _ _).trans hg))
  clear hg
  have HMM := Lib.hid hm
  clear hm
  cases m with
  | false =>
    have HC : Hid (cutB ax ay bx_ b_y c = false) := Lib.hid (by unfold cutB; rw [← HMM.out]; rfl)
    go_wp2
    go_ret2
    exact ⟨ret_pair (by unfold atxP; rw [HC.out]; rfl) HC.out.symm, Hg.out⟩
  | true =>
    have hmm := HMM.out.symm
    rw [Bool.and_eq_true, mayB_iff, mayB_iff] at hmm
    obtain ⟨⟨a1, a2, a3, a4⟩, b1, b2, b3, b4⟩ := hmm
    obtain ⟨c0, c1, c2, c3⟩ := BX.out _ HG.out
    by_cases hc : ax < c ∧ c < bx_
    · obtain ⟨hc1, hc2⟩ := hc
      have HC : Hid (cutB ax ay bx_ b_y c = true) := Lib.hid (by unfold cutB; rw [← HMM.out]; simp; omega)
      obtain ⟨p1, p2⟩ := @mul_bd ay (bx_ - ax) 16777216 33554432 (by omega) (by omega) (by omega) (by omega)
      obtain ⟨p3, p4⟩ := @mul_bd (c - ax) (b_y - ay) 33554432 33554432 (by omega) (by omega) (by omega) (by omega)
      have HD : Hid (divB (ay * (bx_ - ax) + (c - ax) * (b_y - ay)) (bx_ - ax) = true) := Lib.hid (divB_iff.2 (by omega))
      go_wp2_with fail
      refine (Round_any _ _ _).mono ?_
      rintro _ w2 ⟨rfl, hg⟩
      have Hg2 := Lib.hid (Hg.out.trans hg)
      clear hg p1 p2 p3 p4 c0 c1 c2 c3
      go_wp2
      go_ret2
      exact ⟨ret_pair (by unfold atxP atxV; rw [HC.out, if_pos rfl, if_pos hle]) (by rw [HD.out, HC.out]), Hg2.out⟩
    · have HC : Hid (cutB ax ay bx_ b_y c = false) := Lib.hid (by unfold cutB; rw [← HMM.out]; simp; omega)
      by_cases h1 : c ≤ ax
      · go_wp2
        go_ret2
        exact ⟨ret_pair (by unfold atxP; rw [HC.out]; rfl) HC.out.symm, Hg.out⟩
      · have h2 : bx_ ≤ c := by omega
        go_wp2
        go_ret2
        exact ⟨ret_pair (by unfold atxP; rw [HC.out]; rfl) HC.out.symm, Hg.out⟩
end Go.Proofs.Ytlkihbehiojimaa
