/-
  Layer 2: where a line cuts a segment.
-/
import Derived.Test.YtlgplhanhnjeiaaS5
import Derived.Test.YtlgplhanhnjeiaaE8
namespace Go.Proofs.Ytlgplhanhnjeiaa
open Go.RowKit Go.Tab

/-- The other number, and whether there is one; from p to q, by rising first numbers. -/
def atF (px py qx qy c : Int) : Int × Bool :=
  if rightB [(px, py), (qx, qy)] = false ∨ (c ≤ px ∨ qx ≤ c) then (0, false) else ((2 * (py * (qx - px) + (c - px) * (qy - py)) + (qx - px)) / (2 * (qx - px)), true)
def atX (a b : Pt) (c : Int) : Int × Bool := if b.1 < a.1 then atF b.1 b.2 a.1 a.2 c else atF a.1 a.2 b.1 b.2 c

set_option maxHeartbeats 4000000 in
theorem atx_any (a b : Pt) (c : Int) (w : World) : Calls Try.prog 15 #[pp a, pp b, .int .i64 c] w (Ret (pair (atX a b c).1 (atX a b c).2) w) := by
  obtain ⟨ax, ay⟩ := a
  obtain ⟨bx, b_y⟩ := b
  unfold atX
  simp only
  by_cases hs : bx < ax
  · rw [if_pos hs]
    have HV : Hid (atF bx b_y ax ay c = _) := Lib.hid (atF.eq_1 bx b_y ax ay c)
    have HR := Lib.hid (fun v w => right_any v [(bx, b_y), (ax, ay)] w)
    generalize atF bx b_y ax ay c = r at HV ⊢
    go_enter Try.func15, Try.ntmps15
    go_upto_region 3 with (fail)

    have G := Lib.hid (((Grows.refl w).al (.cells #[.int .i64 bx, .int .i64 b_y] 23)).al (.cells #[.int .i64 ax, .int .i64 ay] 23))
    have B3 := Lib.hid ((Grows.alloc _ (.cells #[.int .i64 ax, .int .i64 ay] 23)).block (heap_new w (.cells #[.int .i64 bx, .int .i64 b_y] 23) _ rfl))
    have B4 := Lib.hid (heap_new (w.alloc (.cells #[.int .i64 bx, .int .i64 b_y] 23)) (.cells #[.int .i64 ax, .int .i64 ay] 23) (w.heap.size + 1) (by simp))
    generalize (w.alloc (.cells #[.int .i64 bx, .int .i64 b_y] 23)).alloc (.cells #[.int .i64 ax, .int .i64 ay] 23) = wq at B3 B4 G ⊢
    obtain ⟨a0, a1, -, -⟩ := cells2 B3.out
    obtain ⟨b0, b1, -, -⟩ := cells2 B4.out
    go_wp2_with fail
    refine (HR.out _ _ ?_).mono ?_
    · exact pts_block (heap_new _ _ _ rfl) rfl (by simp)
    rintro _ wr ⟨rfl, hg⟩
    have hg2 := (Grows.alloc _ _).trans hg
    have B3' := Lib.hid (hg2.block B3.out)
    have B4' := Lib.hid (hg2.block B4.out)
    have G' := Lib.hid ((G.out).trans hg2)
    clear a0 a1 b0 b1 hg hg2
    obtain ⟨a0, a1, -, -⟩ := cells2 B3'.out
    obtain ⟨b0, b1, -, -⟩ := cells2 B4'.out
    cases hm : rightB [(bx, b_y), (ax, ay)] with
    | false =>
      have HZ := Lib.hid (HV.out.trans (if_pos (.inl hm)))
      clear hm
      go_wp2
      go_ret2
      exact ⟨by rw [HZ.out]; rfl, G'.out⟩
    | true =>
      by_cases hc : c ≤ bx ∨ ax ≤ c
      · have HZ := Lib.hid (HV.out.trans (if_pos (.inr hc)))
        clear hm
        by_cases h1 : c ≤ bx
        · go_wp2
          go_ret2
          exact ⟨by rw [HZ.out]; rfl, G'.out⟩
        · have h2 : ax ≤ c := by omega
          go_wp2
          go_ret2
          exact ⟨by rw [HZ.out]; rfl, G'.out⟩
      · have HZ := Lib.hid (HV.out.trans (if_neg (fun h => h.elim (fun h => by rw [hm] at h; cases h) hc)))
        have hmm := hm
        simp only [rightB, List.all_cons, List.all_nil, Bool.and_true, Bool.and_eq_true] at hmm
        obtain ⟨mp, mq⟩ := hmm
        obtain ⟨p1, p2, p3, p4⟩ := mayB_iff.1 mp
        obtain ⟨q1, q2, q3, q4⟩ := mayB_iff.1 mq
        have h1 : ¬ c ≤ bx := fun h => hc (.inl h)
        have h2 : ¬ ax ≤ c := fun h => hc (.inr h)
        clear hc hm mp mq
        obtain ⟨u1, v1⟩ := @mul_bd b_y (ax - bx) 16777216 33554432 (by omega) (by omega) (by omega) (by omega)
        obtain ⟨u2, v2⟩ := @mul_bd (c - bx) (ay - b_y) 33554432 33554432 (by omega) (by omega) (by omega) (by omega)
        have HD := Lib.hid (Round_yes (b_y * (ax - bx) + (c - bx) * (ay - b_y)) (ax - bx))
        have HB : Hid (divB (b_y * (ax - bx) + (c - bx) * (ay - b_y)) (ax - bx) = true) := Lib.hid (by rw [divB_iff]; omega)
        go_wp2_with fail
        refine (HD.out _ HB.out).mono ?_
        rintro _ w7 ⟨rfl, hg⟩
        have G7 := Lib.hid (G'.out.trans hg)
        clear hg
        go_wp2
        go_ret2
        exact ⟨by rw [HZ.out]; rfl, G7.out⟩
  · rw [if_neg hs]
    have HV : Hid (atF ax ay bx b_y c = _) := Lib.hid (atF.eq_1 ax ay bx b_y c)
    have HR := Lib.hid (fun v w => right_any v [(ax, ay), (bx, b_y)] w)
    generalize atF ax ay bx b_y c = r at HV ⊢
    go_enter Try.func15, Try.ntmps15
    go_upto_region 3 with (fail)
    have G := Lib.hid (((Grows.refl w).al (.cells #[.int .i64 ax, .int .i64 ay] 23)).al (.cells #[.int .i64 bx, .int .i64 b_y] 23))
    have B3 := Lib.hid ((Grows.alloc _ (.cells #[.int .i64 bx, .int .i64 b_y] 23)).block (heap_new w (.cells #[.int .i64 ax, .int .i64 ay] 23) _ rfl))
    have B4 := Lib.hid (heap_new (w.alloc (.cells #[.int .i64 ax, .int .i64 ay] 23)) (.cells #[.int .i64 bx, .int .i64 b_y] 23) (w.heap.size + 1) (by simp))
    generalize (w.alloc (.cells #[.int .i64 ax, .int .i64 ay] 23)).alloc (.cells #[.int .i64 bx, .int .i64 b_y] 23) = wq at B3 B4 G ⊢
    obtain ⟨a0, a1, -, -⟩ := cells2 B3.out
    obtain ⟨b0, b1, -, -⟩ := cells2 B4.out
    go_wp2_with fail
    refine (HR.out _ _ ?_).mono ?_
    · exact pts_block (heap_new _ _ _ rfl) rfl (by simp)
    rintro _ wr ⟨rfl, hg⟩
    have hg2 := (Grows.alloc _ _).trans hg
    have B3' := Lib.hid (hg2.block B3.out)
    have B4' := Lib.hid (hg2.block B4.out)
    have G' := Lib.hid ((G.out).trans hg2)
    clear a0 a1 b0 b1 hg hg2
    obtain ⟨a0, a1, -, -⟩ := cells2 B3'.out
    obtain ⟨b0, b1, -, -⟩ := cells2 B4'.out
    cases hm : rightB [(ax, ay), (bx, b_y)] with
    | false =>
      have HZ := Lib.hid (HV.out.trans (if_pos (.inl hm)))
      clear hm
      go_wp2
      go_ret2
      exact ⟨by rw [HZ.out]; rfl, G'.out⟩
    | true =>
      by_cases hc : c ≤ ax ∨ bx ≤ c
      · have HZ := Lib.hid (HV.out.trans (if_pos (.inr hc)))
        clear hm
        by_cases h1 : c ≤ ax
        · go_wp2
          go_ret2
          exact ⟨by rw [HZ.out]; rfl, G'.out⟩
        · have h2 : bx ≤ c := by omega
          go_wp2
          go_ret2
          exact ⟨by rw [HZ.out]; rfl, G'.out⟩
      · have HZ := Lib.hid (HV.out.trans (if_neg (fun h => h.elim (fun h => by rw [hm] at h; cases h) hc)))
        have hmm := hm
        simp only [rightB, List.all_cons, List.all_nil, Bool.and_true, Bool.and_eq_true] at hmm
        obtain ⟨mp, mq⟩ := hmm
        obtain ⟨p1, p2, p3, p4⟩ := mayB_iff.1 mp
        obtain ⟨q1, q2, q3, q4⟩ := mayB_iff.1 mq
        have h1 : ¬ c ≤ ax := fun h => hc (.inl h)
        have h2 : ¬ bx ≤ c := fun h => hc (.inr h)
        clear hc hm mp mq
        obtain ⟨u1, v1⟩ := @mul_bd ay (bx - ax) 16777216 33554432 (by omega) (by omega) (by omega) (by omega)
        obtain ⟨u2, v2⟩ := @mul_bd (c - ax) (b_y - ay) 33554432 33554432 (by omega) (by omega) (by omega) (by omega)
        have HD := Lib.hid (Round_yes (ay * (bx - ax) + (c - ax) * (b_y - ay)) (bx - ax))
        have HB : Hid (divB (ay * (bx - ax) + (c - ax) * (b_y - ay)) (bx - ax) = true) := Lib.hid (by rw [divB_iff]; omega)
        go_wp2_with fail
        refine (HD.out _ HB.out).mono ?_
        rintro _ w7 ⟨rfl, hg⟩
        have G7 := Lib.hid (G'.out.trans hg)
        clear hg
        go_wp2
        go_ret2
        exact ⟨by rw [HZ.out]; rfl, G7.out⟩
end Go.Proofs.Ytlgplhanhnjeiaa
