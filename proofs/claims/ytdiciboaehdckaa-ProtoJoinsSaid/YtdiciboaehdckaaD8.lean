/-
  Layer 8: reading a field: the document's answer: a number, bytes, words.
-/
import Derived.Test.YtdiciboaehdckaaD7
namespace Go.Proofs.Ytdiciboaehdckaa
open Go.RowKit Go.Tab

set_option maxRecDepth 100000 in
set_option maxHeartbeats 4000000 in
theorem rread_more0 (ba oa n c r1 r2 r3 : Nat) (w : World) (HR : Hid (Calls Try.prog 32 #[.slice (some ⟨ba, oa, none⟩) n c] (w.alloc fzr) (Ret (rdv (r1, r2, r3)) (w.alloc fzr)))) (hr1 : r1 < 18446744073709551616) (hr3 : r3 = 0) (hn1 : ¬ (r1 : Int) / 8 < 1) (hn2 : ¬ 536870911 < (r1 : Int) / 8) (b3 : ((r1 : Int) % 8 == 3) = false) (b4 : ((r1 : Int) % 8 == 4) = false) (h5 : ¬ 5 < (r1 : Int) % 8) (b5 : ((r1 : Int) % 8 == 5) = false) (b0 : ((r1 : Int) % 8 == 0) = true) (q1 q2 q3 : Nat) (HR2 : Hid (∀ w2, Grows w w2 → Calls Try.prog 32 #[.slice (some ⟨ba, oa + r2, none⟩) (n - r2) (c - r2)] w2 (Ret (rdv (q1, q2, q3)) w2))) (hlc : r2 < c) (hr2 : r2 ≤ n) (hnc : n ≤ c) (hn9 : n ≤ 17592186044416) (he : ((q3 : Int) != 0) = true) :
    Calls Try.prog 17 #[.slice (some ⟨ba, oa, none⟩) n c] w (Ret (rbadv q3) w) := by
  subst hr3
  go_enter Try.func17, Try.ntmps17
  go_wp2_with fail
  refine HR.out.mono ?_
  rintro _ w1 ⟨rfl, hg⟩
  have h1 := hg.block (heap_new w fzr _ rfl)
  obtain ⟨c0, c1, c2, c3⟩ := cells4f h1
  have f0 := frozz h1 0
  have f1 := frozz h1 1
  have f2 := frozz h1 2
  have f3 := frozz h1 3
  have H1 := Lib.hid h1
  have G := Lib.hid (((Grows.refl w).al _).trans hg)
  have hz := hg.size
  rw [World.size_alloc] at hz
  have hw : w.heap.size < w1.heap.size := by omega
  have hne : w.heap.size ≠ w1.heap.size := Nat.ne_of_lt hw
  clear hg h1 hz
  go_wp2_with fail
  refine (HR2.out _ (G.out.al _)).mono ?_
  rintro _ w2 ⟨rfl, hg⟩
  have h1 := hg.block ((Grows.alloc _ _).block H1.out)
  have h2 := hg.block (heap_new _ _ _ rfl)
  have G2 := Lib.hid ((G.out.al _).trans hg)
  clear c0 c1 c2 c3 f0 f1 f2 f3
  obtain ⟨c0, c1, c2, c3⟩ := cells4f h1
  have f0 := frozz h1 0
  have f1 := frozz h1 1
  have f2 := frozz h1 2
  have f3 := frozz h1 3
  obtain ⟨d0, d1, d2, d3⟩ := cells4f h2
  have e2 := frozz h2 2
  have e3 := frozz h2 3
  have H1 := Lib.hid h1
  have H2 := Lib.hid h2
  clear hg h1 h2
  go_wp2
  exact bodyPost_ret (v := rbadv q3) (by simp [results, Try.results17, go_sem, c0, c1, c2, c3, hw, hne]) rfl ⟨rfl, ((((G2.out).st (by first | exact Nat.le_refl _ | exact Nat.le_of_lt hw) _).st (by first | exact Nat.le_refl _ | exact Nat.le_of_lt hw) _).st (by first | exact Nat.le_refl _ | exact Nat.le_of_lt hw) _).st (by first | exact Nat.le_refl _ | exact Nat.le_of_lt hw) _⟩

set_option maxRecDepth 100000 in
set_option maxHeartbeats 4000000 in
theorem rread_mend0 (ba oa n c r1 r2 r3 : Nat) (w : World) (HR : Hid (Calls Try.prog 32 #[.slice (some ⟨ba, oa, none⟩) n c] (w.alloc fzr) (Ret (rdv (r1, r2, r3)) (w.alloc fzr)))) (hr1 : r1 < 18446744073709551616) (hr3 : r3 = 0) (hn1 : ¬ (r1 : Int) / 8 < 1) (hn2 : ¬ 536870911 < (r1 : Int) / 8) (b3 : ((r1 : Int) % 8 == 3) = false) (b4 : ((r1 : Int) % 8 == 4) = false) (h5 : ¬ 5 < (r1 : Int) % 8) (b5 : ((r1 : Int) % 8 == 5) = false) (b0 : ((r1 : Int) % 8 == 0) = true) (q1 q2 q3 : Nat) (HR2 : Hid (∀ w2, Grows w w2 → Calls Try.prog 32 #[.slice (some ⟨ba, oa, none⟩) 0 0] w2 (Ret (rdv (q1, q2, q3)) w2))) (hlc : r2 = c) (hr2 : r2 ≤ n) (hnc : n ≤ c) (hn9 : n ≤ 17592186044416) (he : ((q3 : Int) != 0) = true) :
    Calls Try.prog 17 #[.slice (some ⟨ba, oa, none⟩) n c] w (Ret (rbadv q3) w) := by
  subst hr3
  subst hlc
  obtain rfl : n = r2 := by omega
  go_enter Try.func17, Try.ntmps17
  go_wp2_with fail
  refine HR.out.mono ?_
  rintro _ w1 ⟨rfl, hg⟩
  have h1 := hg.block (heap_new w fzr _ rfl)
  obtain ⟨c0, c1, c2, c3⟩ := cells4f h1
  have f0 := frozz h1 0
  have f1 := frozz h1 1
  have f2 := frozz h1 2
  have f3 := frozz h1 3
  have H1 := Lib.hid h1
  have G := Lib.hid (((Grows.refl w).al _).trans hg)
  have hz := hg.size
  rw [World.size_alloc] at hz
  have hw : w.heap.size < w1.heap.size := by omega
  have hne : w.heap.size ≠ w1.heap.size := Nat.ne_of_lt hw
  clear hg h1 hz
  go_wp2_with fail
  refine (HR2.out _ (G.out.al _)).mono ?_
  rintro _ w2 ⟨rfl, hg⟩
  have h1 := hg.block ((Grows.alloc _ _).block H1.out)
  have h2 := hg.block (heap_new _ _ _ rfl)
  have G2 := Lib.hid ((G.out.al _).trans hg)
  clear c0 c1 c2 c3 f0 f1 f2 f3
  obtain ⟨c0, c1, c2, c3⟩ := cells4f h1
  have f0 := frozz h1 0
  have f1 := frozz h1 1
  have f2 := frozz h1 2
  have f3 := frozz h1 3
  obtain ⟨d0, d1, d2, d3⟩ := cells4f h2
  have e2 := frozz h2 2
  have e3 := frozz h2 3
  have H1 := Lib.hid h1
  have H2 := Lib.hid h2
  clear hg h1 h2
  go_wp2
  exact bodyPost_ret (v := rbadv q3) (by simp [results, Try.results17, go_sem, c0, c1, c2, c3, hw, hne]) rfl ⟨rfl, ((((G2.out).st (by first | exact Nat.le_refl _ | exact Nat.le_of_lt hw) _).st (by first | exact Nat.le_refl _ | exact Nat.le_of_lt hw) _).st (by first | exact Nat.le_refl _ | exact Nat.le_of_lt hw) _).st (by first | exact Nat.le_refl _ | exact Nat.le_of_lt hw) _⟩

set_option maxRecDepth 100000 in
set_option maxHeartbeats 4000000 in
theorem rread_more2 (ba oa n c r1 r2 r3 : Nat) (w : World) (HR : Hid (Calls Try.prog 32 #[.slice (some ⟨ba, oa, none⟩) n c] (w.alloc fzr) (Ret (rdv (r1, r2, r3)) (w.alloc fzr)))) (hr1 : r1 < 18446744073709551616) (hr3 : r3 = 0) (hn1 : ¬ (r1 : Int) / 8 < 1) (hn2 : ¬ 536870911 < (r1 : Int) / 8) (b3 : ((r1 : Int) % 8 == 3) = false) (b4 : ((r1 : Int) % 8 == 4) = false) (h5 : ¬ 5 < (r1 : Int) % 8) (b5 : ((r1 : Int) % 8 == 5) = false) (b0 : ((r1 : Int) % 8 == 0) = false) (b2 : ((r1 : Int) % 8 == 2) = true) (q1 q2 q3 : Nat) (HR2 : Hid (∀ w2, Grows w w2 → Calls Try.prog 32 #[.slice (some ⟨ba, oa + r2, none⟩) (n - r2) (c - r2)] w2 (Ret (rdv (q1, q2, q3)) w2))) (hlc : r2 < c) (hr2 : r2 ≤ n) (hnc : n ≤ c) (hn9 : n ≤ 17592186044416) (he : ((q3 : Int) != 0) = true) :
    Calls Try.prog 17 #[.slice (some ⟨ba, oa, none⟩) n c] w (Ret (rbadv q3) w) := by
  subst hr3
  go_enter Try.func17, Try.ntmps17
  go_wp2_with fail
  refine HR.out.mono ?_
  rintro _ w1 ⟨rfl, hg⟩
  have h1 := hg.block (heap_new w fzr _ rfl)
  obtain ⟨c0, c1, c2, c3⟩ := cells4f h1
  have f0 := frozz h1 0
  have f1 := frozz h1 1
  have f2 := frozz h1 2
  have f3 := frozz h1 3
  have H1 := Lib.hid h1
  have G := Lib.hid (((Grows.refl w).al _).trans hg)
  have hz := hg.size
  rw [World.size_alloc] at hz
  have hw : w.heap.size < w1.heap.size := by omega
  have hne : w.heap.size ≠ w1.heap.size := Nat.ne_of_lt hw
  clear hg h1 hz
  go_wp2_with fail
  refine (HR2.out _ (G.out.al _)).mono ?_
  rintro _ w2 ⟨rfl, hg⟩
  have h1 := hg.block ((Grows.alloc _ _).block H1.out)
  have h2 := hg.block (heap_new _ _ _ rfl)
  have G2 := Lib.hid ((G.out.al _).trans hg)
  clear c0 c1 c2 c3 f0 f1 f2 f3
  obtain ⟨c0, c1, c2, c3⟩ := cells4f h1
  have f0 := frozz h1 0
  have f1 := frozz h1 1
  have f2 := frozz h1 2
  have f3 := frozz h1 3
  obtain ⟨d0, d1, d2, d3⟩ := cells4f h2
  have e2 := frozz h2 2
  have e3 := frozz h2 3
  have H1 := Lib.hid h1
  have H2 := Lib.hid h2
  clear hg h1 h2
  go_wp2
  exact bodyPost_ret (v := rbadv q3) (by simp [results, Try.results17, go_sem, c0, c1, c2, c3, hw, hne]) rfl ⟨rfl, ((((G2.out).st (by first | exact Nat.le_refl _ | exact Nat.le_of_lt hw) _).st (by first | exact Nat.le_refl _ | exact Nat.le_of_lt hw) _).st (by first | exact Nat.le_refl _ | exact Nat.le_of_lt hw) _).st (by first | exact Nat.le_refl _ | exact Nat.le_of_lt hw) _⟩

set_option maxRecDepth 100000 in
set_option maxHeartbeats 4000000 in
theorem rread_mend2 (ba oa n c r1 r2 r3 : Nat) (w : World) (HR : Hid (Calls Try.prog 32 #[.slice (some ⟨ba, oa, none⟩) n c] (w.alloc fzr) (Ret (rdv (r1, r2, r3)) (w.alloc fzr)))) (hr1 : r1 < 18446744073709551616) (hr3 : r3 = 0) (hn1 : ¬ (r1 : Int) / 8 < 1) (hn2 : ¬ 536870911 < (r1 : Int) / 8) (b3 : ((r1 : Int) % 8 == 3) = false) (b4 : ((r1 : Int) % 8 == 4) = false) (h5 : ¬ 5 < (r1 : Int) % 8) (b5 : ((r1 : Int) % 8 == 5) = false) (b0 : ((r1 : Int) % 8 == 0) = false) (b2 : ((r1 : Int) % 8 == 2) = true) (q1 q2 q3 : Nat) (HR2 : Hid (∀ w2, Grows w w2 → Calls Try.prog 32 #[.slice (some ⟨ba, oa, none⟩) 0 0] w2 (Ret (rdv (q1, q2, q3)) w2))) (hlc : r2 = c) (hr2 : r2 ≤ n) (hnc : n ≤ c) (hn9 : n ≤ 17592186044416) (he : ((q3 : Int) != 0) = true) :
    Calls Try.prog 17 #[.slice (some ⟨ba, oa, none⟩) n c] w (Ret (rbadv q3) w) := by
  subst hr3
  subst hlc
  obtain rfl : n = r2 := by omega
  go_enter Try.func17, Try.ntmps17
  go_wp2_with fail
  refine HR.out.mono ?_
  rintro _ w1 ⟨rfl, hg⟩
  have h1 := hg.block (heap_new w fzr _ rfl)
  obtain ⟨c0, c1, c2, c3⟩ := cells4f h1
  have f0 := frozz h1 0
  have f1 := frozz h1 1
  have f2 := frozz h1 2
  have f3 := frozz h1 3
  have H1 := Lib.hid h1
  have G := Lib.hid (((Grows.refl w).al _).trans hg)
  have hz := hg.size
  rw [World.size_alloc] at hz
  have hw : w.heap.size < w1.heap.size := by omega
  have hne : w.heap.size ≠ w1.heap.size := Nat.ne_of_lt hw
  clear hg h1 hz
  go_wp2_with fail
  refine (HR2.out _ (G.out.al _)).mono ?_
  rintro _ w2 ⟨rfl, hg⟩
  have h1 := hg.block ((Grows.alloc _ _).block H1.out)
  have h2 := hg.block (heap_new _ _ _ rfl)
  have G2 := Lib.hid ((G.out.al _).trans hg)
  clear c0 c1 c2 c3 f0 f1 f2 f3
  obtain ⟨c0, c1, c2, c3⟩ := cells4f h1
  have f0 := frozz h1 0
  have f1 := frozz h1 1
  have f2 := frozz h1 2
  have f3 := frozz h1 3
  obtain ⟨d0, d1, d2, d3⟩ := cells4f h2
  have e2 := frozz h2 2
  have e3 := frozz h2 3
  have H1 := Lib.hid h1
  have H2 := Lib.hid h2
  clear hg h1 h2
  go_wp2
  exact bodyPost_ret (v := rbadv q3) (by simp [results, Try.results17, go_sem, c0, c1, c2, c3, hw, hne]) rfl ⟨rfl, ((((G2.out).st (by first | exact Nat.le_refl _ | exact Nat.le_of_lt hw) _).st (by first | exact Nat.le_refl _ | exact Nat.le_of_lt hw) _).st (by first | exact Nat.le_refl _ | exact Nat.le_of_lt hw) _).st (by first | exact Nat.le_refl _ | exact Nat.le_of_lt hw) _⟩

set_option maxRecDepth 100000 in
set_option maxHeartbeats 4000000 in
theorem rread_number (ba oa n c r1 r2 r3 : Nat) (w : World) (HR : Hid (Calls Try.prog 32 #[.slice (some ⟨ba, oa, none⟩) n c] (w.alloc fzr) (Ret (rdv (r1, r2, r3)) (w.alloc fzr)))) (hr1 : r1 < 18446744073709551616) (hr3 : r3 = 0) (hn1 : ¬ (r1 : Int) / 8 < 1) (hn2 : ¬ 536870911 < (r1 : Int) / 8) (b3 : ((r1 : Int) % 8 == 3) = false) (b4 : ((r1 : Int) % 8 == 4) = false) (h5 : ¬ 5 < (r1 : Int) % 8) (b5 : ((r1 : Int) % 8 == 5) = false) (b0 : ((r1 : Int) % 8 == 0) = true) (q1 q2 q3 : Nat) (HR2 : Hid (∀ w2, Grows w w2 → Calls Try.prog 32 #[.slice (some ⟨ba, oa + r2, none⟩) (n - r2) (c - r2)] w2 (Ret (rdv (q1, q2, q3)) w2))) (hlc : r2 < c) (hr2 : r2 ≤ n) (hnc : n ≤ c) (hn9 : n ≤ 17592186044416) (hq3 : q3 = 0) (hq2 : r2 + q2 ≤ n) :
    Calls Try.prog 17 #[.slice (some ⟨ba, oa, none⟩) n c] w (Ret (.tuple #[.agg #[.int .i64 ((r1 : Int) / 8), .int .i64 ((r1 : Int) % 8), .int .u64 (q1 : Int), .string ⟨#[]⟩], .int .i64 ((r2 : Int) + (q2 : Int)), .int .i64 0]) w) := by
  subst hr3
  subst hq3
  go_enter Try.func17, Try.ntmps17
  go_wp2_with fail
  refine HR.out.mono ?_
  rintro _ w1 ⟨rfl, hg⟩
  have h1 := hg.block (heap_new w fzr _ rfl)
  obtain ⟨c0, c1, c2, c3⟩ := cells4f h1
  have f0 := frozz h1 0
  have f1 := frozz h1 1
  have f2 := frozz h1 2
  have f3 := frozz h1 3
  have H1 := Lib.hid h1
  have G := Lib.hid (((Grows.refl w).al _).trans hg)
  have hz := hg.size
  rw [World.size_alloc] at hz
  have hw : w.heap.size < w1.heap.size := by omega
  have hne : w.heap.size ≠ w1.heap.size := Nat.ne_of_lt hw
  clear hg h1 hz
  go_wp2_with fail
  refine (HR2.out _ (G.out.al _)).mono ?_
  rintro _ w2 ⟨rfl, hg⟩
  have h1 := hg.block ((Grows.alloc _ _).block H1.out)
  have h2 := hg.block (heap_new _ _ _ rfl)
  have G2 := Lib.hid ((G.out.al _).trans hg)
  clear c0 c1 c2 c3 f0 f1 f2 f3
  obtain ⟨c0, c1, c2, c3⟩ := cells4f h1
  have f0 := frozz h1 0
  have f1 := frozz h1 1
  have f2 := frozz h1 2
  have f3 := frozz h1 3
  obtain ⟨d0, d1, d2, d3⟩ := cells4f h2
  have e2 := frozz h2 2
  have e3 := frozz h2 3
  have H1 := Lib.hid h1
  have H2 := Lib.hid h2
  clear hg h1 h2
  go_wp2
  exact bodyPost_ret (v := .tuple #[.agg #[.int .i64 ((r1 : Int) / 8), .int .i64 ((r1 : Int) % 8), .int .u64 (q1 : Int), .string ⟨#[]⟩], .int .i64 ((r2 : Int) + (q2 : Int)), .int .i64 0]) (by simp [results, Try.results17, go_sem, c0, c1, c2, c3, hw, hne]) rfl ⟨rfl, (((((G2.out).st (by first | exact Nat.le_refl _ | exact Nat.le_of_lt hw) _).st (by first | exact Nat.le_refl _ | exact Nat.le_of_lt hw) _).st (by first | exact Nat.le_refl _ | exact Nat.le_of_lt hw) _).st (by first | exact Nat.le_refl _ | exact Nat.le_of_lt hw) _).st (by first | exact Nat.le_refl _ | exact Nat.le_of_lt hw) _⟩

set_option maxRecDepth 100000 in
set_option maxHeartbeats 4000000 in
theorem rread_end (ba oa n c r1 r2 r3 : Nat) (w : World) (HR : Hid (Calls Try.prog 32 #[.slice (some ⟨ba, oa, none⟩) n c] (w.alloc fzr) (Ret (rdv (r1, r2, r3)) (w.alloc fzr)))) (hr1 : r1 < 18446744073709551616) (hr3 : r3 = 0) (hn1 : ¬ (r1 : Int) / 8 < 1) (hn2 : ¬ 536870911 < (r1 : Int) / 8) (b3 : ((r1 : Int) % 8 == 3) = false) (b4 : ((r1 : Int) % 8 == 4) = false) (h5 : ¬ 5 < (r1 : Int) % 8) (b5 : ((r1 : Int) % 8 == 5) = false) (b0 : ((r1 : Int) % 8 == 0) = false) (b2 : ((r1 : Int) % 8 == 2) = true) (q1 q2 q3 : Nat) (HR2 : Hid (∀ w2, Grows w w2 → Calls Try.prog 32 #[.slice (some ⟨ba, oa + r2, none⟩) (n - r2) (c - r2)] w2 (Ret (rdv (q1, q2, q3)) w2))) (hlc : r2 < c) (hr2 : r2 ≤ n) (hnc : n ≤ c) (hn9 : n ≤ 17592186044416) (hq3 : q3 = 0) (hq2 : r2 + q2 ≤ n) (hs : (n : Int) - ((r2 : Int) + (q2 : Int)) < (q1 : Int)) :
    Calls Try.prog 17 #[.slice (some ⟨ba, oa, none⟩) n c] w (Ret (rbadv 4) w) := by
  subst hr3
  subst hq3
  go_enter Try.func17, Try.ntmps17
  go_wp2_with fail
  refine HR.out.mono ?_
  rintro _ w1 ⟨rfl, hg⟩
  have h1 := hg.block (heap_new w fzr _ rfl)
  obtain ⟨c0, c1, c2, c3⟩ := cells4f h1
  have f0 := frozz h1 0
  have f1 := frozz h1 1
  have f2 := frozz h1 2
  have f3 := frozz h1 3
  have H1 := Lib.hid h1
  have G := Lib.hid (((Grows.refl w).al _).trans hg)
  have hz := hg.size
  rw [World.size_alloc] at hz
  have hw : w.heap.size < w1.heap.size := by omega
  have hne : w.heap.size ≠ w1.heap.size := Nat.ne_of_lt hw
  clear hg h1 hz
  go_wp2_with fail
  refine (HR2.out _ (G.out.al _)).mono ?_
  rintro _ w2 ⟨rfl, hg⟩
  have h1 := hg.block ((Grows.alloc _ _).block H1.out)
  have h2 := hg.block (heap_new _ _ _ rfl)
  have G2 := Lib.hid ((G.out.al _).trans hg)
  clear c0 c1 c2 c3 f0 f1 f2 f3
  obtain ⟨c0, c1, c2, c3⟩ := cells4f h1
  have f0 := frozz h1 0
  have f1 := frozz h1 1
  have f2 := frozz h1 2
  have f3 := frozz h1 3
  obtain ⟨d0, d1, d2, d3⟩ := cells4f h2
  have e2 := frozz h2 2
  have e3 := frozz h2 3
  have H1 := Lib.hid h1
  have H2 := Lib.hid h2
  clear hg h1 h2
  go_wp2
  exact bodyPost_ret (v := rbadv 4) (by simp [results, Try.results17, go_sem, c0, c1, c2, c3, hw, hne]) rfl ⟨rfl, ((((G2.out).st (by first | exact Nat.le_refl _ | exact Nat.le_of_lt hw) _).st (by first | exact Nat.le_refl _ | exact Nat.le_of_lt hw) _).st (by first | exact Nat.le_refl _ | exact Nat.le_of_lt hw) _).st (by first | exact Nat.le_refl _ | exact Nat.le_of_lt hw) _⟩

set_option maxRecDepth 100000 in
set_option maxHeartbeats 4000000 in
theorem rread_bytes (ba oa n c r1 r2 r3 : Nat) (w : World) (HR : Hid (Calls Try.prog 32 #[.slice (some ⟨ba, oa, none⟩) n c] (w.alloc fzr) (Ret (rdv (r1, r2, r3)) (w.alloc fzr)))) (bs : List Nat) (hr1 : r1 < 18446744073709551616) (hr3 : r3 = 0) (hn1 : ¬ (r1 : Int) / 8 < 1) (hn2 : ¬ 536870911 < (r1 : Int) / 8) (b3 : ((r1 : Int) % 8 == 3) = false) (b4 : ((r1 : Int) % 8 == 4) = false) (h5 : ¬ 5 < (r1 : Int) % 8) (b5 : ((r1 : Int) % 8 == 5) = false) (b0 : ((r1 : Int) % 8 == 0) = false) (b2 : ((r1 : Int) % 8 == 2) = true) (q1 q2 q3 : Nat) (HR2 : Hid (∀ w2, Grows w w2 → Calls Try.prog 32 #[.slice (some ⟨ba, oa + r2, none⟩) (n - r2) (c - r2)] w2 (Ret (rdv (q1, q2, q3)) w2))) (hlc : r2 < c) (hr2 : r2 ≤ n) (hnc : n ≤ c) (hn9 : n ≤ 17592186044416) (hq3 : q3 = 0) (hq2 : r2 + q2 ≤ n) (hs : r2 + q2 + q1 ≤ n) (hfar : r2 + q2 < c) (HB : Hid (∀ w2, Grows w w2 → NumsAt .u8 w2 (.slice (some ⟨ba, oa + (r2 + q2), none⟩) q1 (c - (r2 + q2))) bs)) :
    Calls Try.prog 17 #[.slice (some ⟨ba, oa, none⟩) n c] w (Ret (.tuple #[.agg #[.int .i64 ((r1 : Int) / 8), .int .i64 ((r1 : Int) % 8), .int .u64 0, .string (strN bs)], .int .i64 ((r2 : Int) + (q2 : Int) + (q1 : Int)), .int .i64 0]) w) := by
  subst hr3
  subst hq3
  go_enter Try.func17, Try.ntmps17
  go_wp2_with fail
  refine HR.out.mono ?_
  rintro _ w1 ⟨rfl, hg⟩
  have h1 := hg.block (heap_new w fzr _ rfl)
  obtain ⟨c0, c1, c2, c3⟩ := cells4f h1
  have f0 := frozz h1 0
  have f1 := frozz h1 1
  have f2 := frozz h1 2
  have f3 := frozz h1 3
  have H1 := Lib.hid h1
  have G := Lib.hid (((Grows.refl w).al _).trans hg)
  have hz := hg.size
  rw [World.size_alloc] at hz
  have hw : w.heap.size < w1.heap.size := by omega
  have hne : w.heap.size ≠ w1.heap.size := Nat.ne_of_lt hw
  clear hg h1 hz
  go_wp2_with fail
  refine (HR2.out _ (G.out.al _)).mono ?_
  rintro _ w2 ⟨rfl, hg⟩
  have h1 := hg.block ((Grows.alloc _ _).block H1.out)
  have h2 := hg.block (heap_new _ _ _ rfl)
  have G2 := Lib.hid ((G.out.al _).trans hg)
  clear c0 c1 c2 c3 f0 f1 f2 f3
  obtain ⟨c0, c1, c2, c3⟩ := cells4f h1
  have f0 := frozz h1 0
  have f1 := frozz h1 1
  have f2 := frozz h1 2
  have f3 := frozz h1 3
  obtain ⟨d0, d1, d2, d3⟩ := cells4f h2
  have e2 := frozz h2 2
  have e3 := frozz h2 3
  have H1 := Lib.hid h1
  have H2 := Lib.hid h2
  clear hg h1 h2
  have hcv := conv_nums (HB.out _ G2.out)
  have hs2 : ¬ (n : Int) - ((r2 : Int) + (q2 : Int)) < (q1 : Int) := by omega
  have hs3 : (r2 : Int) + (q2 : Int) + (q1 : Int) ≤ (n : Int) := by omega
  go_wp2
  exact bodyPost_ret (v := .tuple #[.agg #[.int .i64 ((r1 : Int) / 8), .int .i64 ((r1 : Int) % 8), .int .u64 0, .string (strN bs)], .int .i64 ((r2 : Int) + (q2 : Int) + (q1 : Int)), .int .i64 0]) (by simp [results, Try.results17, go_sem, c0, c1, c2, c3, hw, hne]) rfl ⟨rfl, (((((G2.out).st (by first | exact Nat.le_refl _ | exact Nat.le_of_lt hw) _).st (by first | exact Nat.le_refl _ | exact Nat.le_of_lt hw) _).st (by first | exact Nat.le_refl _ | exact Nat.le_of_lt hw) _).st (by first | exact Nat.le_refl _ | exact Nat.le_of_lt hw) _).st (by first | exact Nat.le_refl _ | exact Nat.le_of_lt hw) _⟩

set_option maxRecDepth 100000 in
set_option maxHeartbeats 4000000 in
theorem rread_none (ba oa n c r1 r2 r3 : Nat) (w : World) (HR : Hid (Calls Try.prog 32 #[.slice (some ⟨ba, oa, none⟩) n c] (w.alloc fzr) (Ret (rdv (r1, r2, r3)) (w.alloc fzr)))) (hr1 : r1 < 18446744073709551616) (hr3 : r3 = 0) (hn1 : ¬ (r1 : Int) / 8 < 1) (hn2 : ¬ 536870911 < (r1 : Int) / 8) (b3 : ((r1 : Int) % 8 == 3) = false) (b4 : ((r1 : Int) % 8 == 4) = false) (h5 : ¬ 5 < (r1 : Int) % 8) (b5 : ((r1 : Int) % 8 == 5) = false) (b0 : ((r1 : Int) % 8 == 0) = false) (b2 : ((r1 : Int) % 8 == 2) = true) (q1 q2 q3 : Nat) (HR2 : Hid (∀ w2, Grows w w2 → Calls Try.prog 32 #[.slice (some ⟨ba, oa + r2, none⟩) (n - r2) (c - r2)] w2 (Ret (rdv (q1, q2, q3)) w2))) (hlc : r2 < c) (hr2 : r2 ≤ n) (hnc : n ≤ c) (hn9 : n ≤ 17592186044416) (hq3 : q3 = 0) (hq2 : r2 + q2 = n) (hnn : n = c) (hq1 : q1 = 0) :
    Calls Try.prog 17 #[.slice (some ⟨ba, oa, none⟩) n c] w (Ret (.tuple #[.agg #[.int .i64 ((r1 : Int) / 8), .int .i64 ((r1 : Int) % 8), .int .u64 0, .string (strN [])], .int .i64 (n : Int), .int .i64 0]) w) := by
  subst hr3
  subst hq3 hnn hq1
  go_enter Try.func17, Try.ntmps17
  go_wp2_with fail
  refine HR.out.mono ?_
  rintro _ w1 ⟨rfl, hg⟩
  have h1 := hg.block (heap_new w fzr _ rfl)
  obtain ⟨c0, c1, c2, c3⟩ := cells4f h1
  have f0 := frozz h1 0
  have f1 := frozz h1 1
  have f2 := frozz h1 2
  have f3 := frozz h1 3
  have H1 := Lib.hid h1
  have G := Lib.hid (((Grows.refl w).al _).trans hg)
  have hz := hg.size
  rw [World.size_alloc] at hz
  have hw : w.heap.size < w1.heap.size := by omega
  have hne : w.heap.size ≠ w1.heap.size := Nat.ne_of_lt hw
  clear hg h1 hz
  go_wp2_with fail
  refine (HR2.out _ (G.out.al _)).mono ?_
  rintro _ w2 ⟨rfl, hg⟩
  have h1 := hg.block ((Grows.alloc _ _).block H1.out)
  have h2 := hg.block (heap_new _ _ _ rfl)
  have G2 := Lib.hid ((G.out.al _).trans hg)
  clear c0 c1 c2 c3 f0 f1 f2 f3
  obtain ⟨c0, c1, c2, c3⟩ := cells4f h1
  have f0 := frozz h1 0
  have f1 := frozz h1 1
  have f2 := frozz h1 2
  have f3 := frozz h1 3
  obtain ⟨d0, d1, d2, d3⟩ := cells4f h2
  have e2 := frozz h2 2
  have e3 := frozz h2 3
  have H1 := Lib.hid h1
  have H2 := Lib.hid h2
  clear hg h1 h2
  have hcv := conv_nums (w := w2) (v := .slice (some ⟨ba, oa, none⟩) 0 0) (l := []) ⟨by simp, .inl ⟨⟨_, _, rfl, fun h => by cases h⟩, rfl⟩⟩
  subst hq2
  go_wp2
  exact bodyPost_ret (v := .tuple #[.agg #[.int .i64 ((r1 : Int) / 8), .int .i64 ((r1 : Int) % 8), .int .u64 0, .string (strN [])], .int .i64 (((r2 + q2 : Nat)) : Int), .int .i64 0]) (by simp [results, Try.results17, go_sem, c0, c1, c2, c3, hw, hne]) rfl ⟨rfl, (((((G2.out).st (by first | exact Nat.le_refl _ | exact Nat.le_of_lt hw) _).st (by first | exact Nat.le_refl _ | exact Nat.le_of_lt hw) _).st (by first | exact Nat.le_refl _ | exact Nat.le_of_lt hw) _).st (by first | exact Nat.le_refl _ | exact Nat.le_of_lt hw) _).st (by first | exact Nat.le_refl _ | exact Nat.le_of_lt hw) _⟩
end Go.Proofs.Ytdiciboaehdckaa
