/-
  Layer 8: a look at a field: a number, or bytes.
-/
import Derived.Test.YtdiciboaehdckaaD3
namespace Go.Proofs.Ytdiciboaehdckaa
open Go.RowKit Go.Tab Go.Fwd

set_option maxRecDepth 100000 in
set_option maxHeartbeats 4000000 in
theorem look_more (l : List Nat) (ba oa n c r1 r2 : Nat) (w : World) (HR : Hid (Calls Try.prog 38 #[.slice (some ⟨ba, oa, none⟩) n c] ((w.alloc fz).alloc fz) (Ret (rdv (r1, r2, 0)) ((w.alloc fz).alloc fz)))) (hr1 : r1 < 18446744073709551616) (hn1 : ¬ (r1 : Int) / 8 < 1) (hn2 : ¬ 536870911 < (r1 : Int) / 8) (HK : Hid (∀ w, Calls Try.prog 34 #[.int .i64 ((r1 : Int) % 8)] w (Ret (.bool true) w))) (b : Bool) (b0 : ((r1 : Int) % 8 == 0) = b) (b1 : ((r1 : Int) % 8 == 1) = false) (b5 : ((r1 : Int) % 8 == 5) = false) (hr2 : r2 ≤ n) (hnc : n ≤ c) (hn9 : n ≤ 17592186044416) (q1 q2 q3 : Nat) (HR2 : Hid (∀ w2, Grows w w2 → Calls Try.prog 38 #[.slice (some ⟨ba, oa + r2, none⟩) (n - r2) (c - r2)] w2 (Ret (rdv (q1, q2, q3)) w2))) (hlc : r2 < c) (e3 : ((q3 : Int) != 0) = true) :
    Calls Try.prog 30 #[.slice (some ⟨ba, oa, none⟩) n c] w (Ret (badv q3) w) := by
  go_enter Try.func30, Try.ntmps30
  go_wp2
  refine wp_scope_fw2 1 0 rfl rfl ?_
  go_wp2_with fail
  refine HR.out.mono ?_
  rintro _ w1 ⟨rfl, hg⟩
  obtain ⟨h1, h2, g⟩ := two_z hg
  obtain ⟨c0, c1, c2, c3⟩ := cells4f h1
  have f0 := frozz h1 0
  have f1 := frozz h1 1
  have f2 := frozz h1 2
  have f3 := frozz h1 3
  obtain ⟨d0, d1, d2, d3⟩ := cells4f h2
  have e0 := frozz h2 0
  have e1 := frozz h2 1
  have e2 := frozz h2 2
  have e3 := frozz h2 3
  have H1 := Lib.hid h1
  have H2 := Lib.hid h2
  have G := Lib.hid g
  clear h1 h2 hg g
  go_wp2_with fail
  refine (HK.out _).mono ?_
  rintro _ w2 ⟨rfl, hg⟩
  obtain ⟨h1, h2, g⟩ := step_z H1.out H2.out G.out hg
  clear c0 c1 c2 c3 d0 d1 d2 d3 e0 e1 e2 e3 f0 f1 f2 f3
  obtain ⟨c0, c1, c2, c3⟩ := cells4f h1
  have f0 := frozz h1 0
  have f1 := frozz h1 1
  have f2 := frozz h1 2
  have f3 := frozz h1 3
  obtain ⟨d0, d1, d2, d3⟩ := cells4f h2
  have e0 := frozz h2 0
  have e1 := frozz h2 1
  have e2 := frozz h2 2
  have e3 := frozz h2 3
  have H1 := Lib.hid h1
  have H2 := Lib.hid h2
  have G := Lib.hid g
  clear h1 h2 hg g
  go_wp2_with fail
  refine (HR2.out _ G.out).mono ?_
  rintro _ w3 ⟨rfl, hg⟩
  have h1 := hg.block H1.out
  have h2 := hg.block H2.out
  have g := G.out.trans hg
  clear c0 c1 c2 c3 d0 d1 d2 d3 e0 e1 e2 e3 f0 f1 f2 f3
  obtain ⟨c0, c1, c2, c3⟩ := cells4f h1
  have f0 := frozz h1 0
  have f1 := frozz h1 1
  have f2 := frozz h1 2
  have f3 := frozz h1 3
  obtain ⟨d0, d1, d2, d3⟩ := cells4f h2
  have e0 := frozz h2 0
  have e1 := frozz h2 1
  have e2 := frozz h2 2
  have e3 := frozz h2 3
  have H1 := Lib.hid h1
  have H2 := Lib.hid h2
  have G := Lib.hid g
  clear h1 h2 hg g
  go_wp2
  go_step3
  dsimp +zetaDelta only [Exit.then]
  refine two_snd (l0 := 1) (l1 := 0) (by decide) ?_
  show Code.wp _ _ _ _ _
  go_wp2
  rw [Exit.noGoto_ret]
  exact bodyPost_ret (v := badv q3) (by simp [results, Try.results30, go_sem, c0, c1, c2, c3]) rfl ⟨rfl, ((((G.out).st (by simp) _).st (by simp) _).st (by simp) _).st (by simp) _⟩

set_option maxRecDepth 100000 in
set_option maxHeartbeats 4000000 in
theorem look_more0 (l : List Nat) (ba oa n c r1 r2 : Nat) (w : World) (HR : Hid (Calls Try.prog 38 #[.slice (some ⟨ba, oa, none⟩) n c] ((w.alloc fz).alloc fz) (Ret (rdv (r1, r2, 0)) ((w.alloc fz).alloc fz)))) (hr1 : r1 < 18446744073709551616) (hn1 : ¬ (r1 : Int) / 8 < 1) (hn2 : ¬ 536870911 < (r1 : Int) / 8) (HK : Hid (∀ w, Calls Try.prog 34 #[.int .i64 ((r1 : Int) % 8)] w (Ret (.bool true) w))) (b : Bool) (b0 : ((r1 : Int) % 8 == 0) = b) (b1 : ((r1 : Int) % 8 == 1) = false) (b5 : ((r1 : Int) % 8 == 5) = false) (hr2 : r2 ≤ n) (hnc : n ≤ c) (hn9 : n ≤ 17592186044416) (q1 q2 q3 : Nat) (HR2 : Hid (∀ w2, Grows w w2 → Calls Try.prog 38 #[.slice (some ⟨ba, oa, none⟩) 0 0] w2 (Ret (rdv (q1, q2, q3)) w2))) (hlc : r2 = c) (e3 : ((q3 : Int) != 0) = true) :
    Calls Try.prog 30 #[.slice (some ⟨ba, oa, none⟩) n c] w (Ret (badv q3) w) := by
  go_enter Try.func30, Try.ntmps30
  go_wp2
  refine wp_scope_fw2 1 0 rfl rfl ?_
  go_wp2_with fail
  refine HR.out.mono ?_
  rintro _ w1 ⟨rfl, hg⟩
  obtain ⟨h1, h2, g⟩ := two_z hg
  obtain ⟨c0, c1, c2, c3⟩ := cells4f h1
  have f0 := frozz h1 0
  have f1 := frozz h1 1
  have f2 := frozz h1 2
  have f3 := frozz h1 3
  obtain ⟨d0, d1, d2, d3⟩ := cells4f h2
  have e0 := frozz h2 0
  have e1 := frozz h2 1
  have e2 := frozz h2 2
  have e3 := frozz h2 3
  have H1 := Lib.hid h1
  have H2 := Lib.hid h2
  have G := Lib.hid g
  clear h1 h2 hg g
  go_wp2_with fail
  refine (HK.out _).mono ?_
  rintro _ w2 ⟨rfl, hg⟩
  obtain ⟨h1, h2, g⟩ := step_z H1.out H2.out G.out hg
  clear c0 c1 c2 c3 d0 d1 d2 d3 e0 e1 e2 e3 f0 f1 f2 f3
  obtain ⟨c0, c1, c2, c3⟩ := cells4f h1
  have f0 := frozz h1 0
  have f1 := frozz h1 1
  have f2 := frozz h1 2
  have f3 := frozz h1 3
  obtain ⟨d0, d1, d2, d3⟩ := cells4f h2
  have e0 := frozz h2 0
  have e1 := frozz h2 1
  have e2 := frozz h2 2
  have e3 := frozz h2 3
  have H1 := Lib.hid h1
  have H2 := Lib.hid h2
  have G := Lib.hid g
  clear h1 h2 hg g
  subst hlc
  obtain rfl : n = r2 := by omega
  go_wp2_with fail
  refine (HR2.out _ G.out).mono ?_
  rintro _ w3 ⟨rfl, hg⟩
  have h1 := hg.block H1.out
  have h2 := hg.block H2.out
  have g := G.out.trans hg
  clear c0 c1 c2 c3 d0 d1 d2 d3 e0 e1 e2 e3 f0 f1 f2 f3
  obtain ⟨c0, c1, c2, c3⟩ := cells4f h1
  have f0 := frozz h1 0
  have f1 := frozz h1 1
  have f2 := frozz h1 2
  have f3 := frozz h1 3
  obtain ⟨d0, d1, d2, d3⟩ := cells4f h2
  have e0 := frozz h2 0
  have e1 := frozz h2 1
  have e2 := frozz h2 2
  have e3 := frozz h2 3
  have H1 := Lib.hid h1
  have H2 := Lib.hid h2
  have G := Lib.hid g
  clear h1 h2 hg g
  go_wp2
  go_step3
  dsimp +zetaDelta only [Exit.then]
  refine two_snd (l0 := 1) (l1 := 0) (by decide) ?_
  show Code.wp _ _ _ _ _
  go_wp2
  rw [Exit.noGoto_ret]
  exact bodyPost_ret (v := badv q3) (by simp [results, Try.results30, go_sem, c0, c1, c2, c3]) rfl ⟨rfl, ((((G.out).st (by simp) _).st (by simp) _).st (by simp) _).st (by simp) _⟩

set_option maxRecDepth 100000 in
set_option maxHeartbeats 4000000 in
theorem look_number (l : List Nat) (ba oa n c r1 r2 : Nat) (w : World) (HR : Hid (Calls Try.prog 38 #[.slice (some ⟨ba, oa, none⟩) n c] ((w.alloc fz).alloc fz) (Ret (rdv (r1, r2, 0)) ((w.alloc fz).alloc fz)))) (hr1 : r1 < 18446744073709551616) (hn1 : ¬ (r1 : Int) / 8 < 1) (hn2 : ¬ 536870911 < (r1 : Int) / 8) (HK : Hid (∀ w, Calls Try.prog 34 #[.int .i64 ((r1 : Int) % 8)] w (Ret (.bool true) w))) (b0 : ((r1 : Int) % 8 == 0) = true) (b1 : ((r1 : Int) % 8 == 1) = false) (b5 : ((r1 : Int) % 8 == 5) = false) (hr2 : r2 ≤ n) (hnc : n ≤ c) (hn9 : n ≤ 17592186044416) (q1 q2 q3 : Nat) (HR2 : Hid (∀ w2, Grows w w2 → Calls Try.prog 38 #[.slice (some ⟨ba, oa + r2, none⟩) (n - r2) (c - r2)] w2 (Ret (rdv (q1, q2, 0)) w2))) (hlc : r2 < c) (hq2 : r2 + q2 ≤ n) :
    Calls Try.prog 30 #[.slice (some ⟨ba, oa, none⟩) n c] w (Ret (.tuple #[.agg #[.int .i64 ((r1 : Int) / 8), .int .i64 ((r1 : Int) % 8), .int .u64 (q1 : Int), .slice none 0 0], .int .i64 ((r2 : Int) + (q2 : Int)), .int .i64 0, .int .i64 0]) w) := by
  go_enter Try.func30, Try.ntmps30
  go_wp2
  refine wp_scope_fw2 1 0 rfl rfl ?_
  go_wp2_with fail
  refine HR.out.mono ?_
  rintro _ w1 ⟨rfl, hg⟩
  obtain ⟨h1, h2, g⟩ := two_z hg
  obtain ⟨c0, c1, c2, c3⟩ := cells4f h1
  have f0 := frozz h1 0
  have f1 := frozz h1 1
  have f2 := frozz h1 2
  have f3 := frozz h1 3
  obtain ⟨d0, d1, d2, d3⟩ := cells4f h2
  have e0 := frozz h2 0
  have e1 := frozz h2 1
  have e2 := frozz h2 2
  have e3 := frozz h2 3
  have H1 := Lib.hid h1
  have H2 := Lib.hid h2
  have G := Lib.hid g
  clear h1 h2 hg g
  go_wp2_with fail
  refine (HK.out _).mono ?_
  rintro _ w2 ⟨rfl, hg⟩
  obtain ⟨h1, h2, g⟩ := step_z H1.out H2.out G.out hg
  clear c0 c1 c2 c3 d0 d1 d2 d3 e0 e1 e2 e3 f0 f1 f2 f3
  obtain ⟨c0, c1, c2, c3⟩ := cells4f h1
  have f0 := frozz h1 0
  have f1 := frozz h1 1
  have f2 := frozz h1 2
  have f3 := frozz h1 3
  obtain ⟨d0, d1, d2, d3⟩ := cells4f h2
  have e0 := frozz h2 0
  have e1 := frozz h2 1
  have e2 := frozz h2 2
  have e3 := frozz h2 3
  have H1 := Lib.hid h1
  have H2 := Lib.hid h2
  have G := Lib.hid g
  clear h1 h2 hg g
  go_wp2_with fail
  refine (HR2.out _ G.out).mono ?_
  rintro _ w3 ⟨rfl, hg⟩
  have h1 := hg.block H1.out
  have h2 := hg.block H2.out
  have g := G.out.trans hg
  clear c0 c1 c2 c3 d0 d1 d2 d3 e0 e1 e2 e3 f0 f1 f2 f3
  obtain ⟨c0, c1, c2, c3⟩ := cells4f h1
  have f0 := frozz h1 0
  have f1 := frozz h1 1
  have f2 := frozz h1 2
  have f3 := frozz h1 3
  obtain ⟨d0, d1, d2, d3⟩ := cells4f h2
  have e0 := frozz h2 0
  have e1 := frozz h2 1
  have e2 := frozz h2 2
  have e3 := frozz h2 3
  have H1 := Lib.hid h1
  have H2 := Lib.hid h2
  have G := Lib.hid g
  clear h1 h2 hg g
  go_wp2
  go_step3
  dsimp +zetaDelta only [Exit.then]
  refine two_fst (l0 := 1) (l1 := 0) ?_
  show Code.wp _ _ _ _ _
  go_wp2
  simp only [Exit.one]
  exact bodyPost_ret (v := .tuple #[.agg #[.int .i64 ((r1 : Int) / 8), .int .i64 ((r1 : Int) % 8), .int .u64 (q1 : Int), .slice none 0 0], .int .i64 ((r2 : Int) + (q2 : Int)), .int .i64 0, .int .i64 0]) (by simp [results, Try.results30, go_sem, c0, c1, c2, c3]) rfl ⟨rfl, (((((G.out).st (by simp) _).st (by simp) _).st (by simp) _).st (by simp) _).st (by simp) _⟩

set_option maxRecDepth 100000 in
set_option maxHeartbeats 4000000 in
theorem look_long (l : List Nat) (ba oa n c r1 r2 : Nat) (w : World) (HR : Hid (Calls Try.prog 38 #[.slice (some ⟨ba, oa, none⟩) n c] ((w.alloc fz).alloc fz) (Ret (rdv (r1, r2, 0)) ((w.alloc fz).alloc fz)))) (hr1 : r1 < 18446744073709551616) (hn1 : ¬ (r1 : Int) / 8 < 1) (hn2 : ¬ 536870911 < (r1 : Int) / 8) (HK : Hid (∀ w, Calls Try.prog 34 #[.int .i64 ((r1 : Int) % 8)] w (Ret (.bool true) w))) (b0 : ((r1 : Int) % 8 == 0) = false) (b1 : ((r1 : Int) % 8 == 1) = false) (b5 : ((r1 : Int) % 8 == 5) = false) (hr2 : r2 ≤ n) (hnc : n ≤ c) (hn9 : n ≤ 17592186044416) (q1 q2 q3 : Nat) (HR2 : Hid (∀ w2, Grows w w2 → Calls Try.prog 38 #[.slice (some ⟨ba, oa + r2, none⟩) (n - r2) (c - r2)] w2 (Ret (rdv (q1, q2, 0)) w2))) (hlc : r2 < c) (hq2 : r2 + q2 ≤ n) (hq : (n : Int) < (q1 : Int)) :
    Calls Try.prog 30 #[.slice (some ⟨ba, oa, none⟩) n c] w (Ret (badv 4) w) := by
  go_enter Try.func30, Try.ntmps30
  go_wp2
  refine wp_scope_fw2 1 0 rfl rfl ?_
  go_wp2_with fail
  refine HR.out.mono ?_
  rintro _ w1 ⟨rfl, hg⟩
  obtain ⟨h1, h2, g⟩ := two_z hg
  obtain ⟨c0, c1, c2, c3⟩ := cells4f h1
  have f0 := frozz h1 0
  have f1 := frozz h1 1
  have f2 := frozz h1 2
  have f3 := frozz h1 3
  obtain ⟨d0, d1, d2, d3⟩ := cells4f h2
  have e0 := frozz h2 0
  have e1 := frozz h2 1
  have e2 := frozz h2 2
  have e3 := frozz h2 3
  have H1 := Lib.hid h1
  have H2 := Lib.hid h2
  have G := Lib.hid g
  clear h1 h2 hg g
  go_wp2_with fail
  refine (HK.out _).mono ?_
  rintro _ w2 ⟨rfl, hg⟩
  obtain ⟨h1, h2, g⟩ := step_z H1.out H2.out G.out hg
  clear c0 c1 c2 c3 d0 d1 d2 d3 e0 e1 e2 e3 f0 f1 f2 f3
  obtain ⟨c0, c1, c2, c3⟩ := cells4f h1
  have f0 := frozz h1 0
  have f1 := frozz h1 1
  have f2 := frozz h1 2
  have f3 := frozz h1 3
  obtain ⟨d0, d1, d2, d3⟩ := cells4f h2
  have e0 := frozz h2 0
  have e1 := frozz h2 1
  have e2 := frozz h2 2
  have e3 := frozz h2 3
  have H1 := Lib.hid h1
  have H2 := Lib.hid h2
  have G := Lib.hid g
  clear h1 h2 hg g
  go_wp2_with fail
  refine (HR2.out _ G.out).mono ?_
  rintro _ w3 ⟨rfl, hg⟩
  have h1 := hg.block H1.out
  have h2 := hg.block H2.out
  have g := G.out.trans hg
  clear c0 c1 c2 c3 d0 d1 d2 d3 e0 e1 e2 e3 f0 f1 f2 f3
  obtain ⟨c0, c1, c2, c3⟩ := cells4f h1
  have f0 := frozz h1 0
  have f1 := frozz h1 1
  have f2 := frozz h1 2
  have f3 := frozz h1 3
  obtain ⟨d0, d1, d2, d3⟩ := cells4f h2
  have e0 := frozz h2 0
  have e1 := frozz h2 1
  have e2 := frozz h2 2
  have e3 := frozz h2 3
  have H1 := Lib.hid h1
  have H2 := Lib.hid h2
  have G := Lib.hid g
  clear h1 h2 hg g
  go_wp2
  go_step3
  dsimp +zetaDelta only [Exit.then]
  refine two_snd (l0 := 1) (l1 := 0) (by decide) ?_
  show Code.wp _ _ _ _ _
  go_wp2
  rw [Exit.noGoto_ret]
  exact bodyPost_ret (v := badv 4) (by simp [results, Try.results30, go_sem, c0, c1, c2, c3]) rfl ⟨rfl, ((((G.out).st (by simp) _).st (by simp) _).st (by simp) _).st (by simp) _⟩

set_option maxRecDepth 100000 in
set_option maxHeartbeats 4000000 in
theorem look_end (l : List Nat) (ba oa n c r1 r2 : Nat) (w : World) (HR : Hid (Calls Try.prog 38 #[.slice (some ⟨ba, oa, none⟩) n c] ((w.alloc fz).alloc fz) (Ret (rdv (r1, r2, 0)) ((w.alloc fz).alloc fz)))) (hr1 : r1 < 18446744073709551616) (hn1 : ¬ (r1 : Int) / 8 < 1) (hn2 : ¬ 536870911 < (r1 : Int) / 8) (HK : Hid (∀ w, Calls Try.prog 34 #[.int .i64 ((r1 : Int) % 8)] w (Ret (.bool true) w))) (b0 : ((r1 : Int) % 8 == 0) = false) (b1 : ((r1 : Int) % 8 == 1) = false) (b5 : ((r1 : Int) % 8 == 5) = false) (hr2 : r2 ≤ n) (hnc : n ≤ c) (hn9 : n ≤ 17592186044416) (q1 q2 q3 : Nat) (HR2 : Hid (∀ w2, Grows w w2 → Calls Try.prog 38 #[.slice (some ⟨ba, oa + r2, none⟩) (n - r2) (c - r2)] w2 (Ret (rdv (q1, q2, 0)) w2))) (hlc : r2 < c) (hq2 : r2 + q2 ≤ n) (hq : ¬ (n : Int) < (q1 : Int)) (hq3 : (n : Int) - ((r2 : Int) + (q2 : Int)) < (q1 : Int)) :
    Calls Try.prog 30 #[.slice (some ⟨ba, oa, none⟩) n c] w (Ret (badv 4) w) := by
  go_enter Try.func30, Try.ntmps30
  go_wp2
  refine wp_scope_fw2 1 0 rfl rfl ?_
  go_wp2_with fail
  refine HR.out.mono ?_
  rintro _ w1 ⟨rfl, hg⟩
  obtain ⟨h1, h2, g⟩ := two_z hg
  obtain ⟨c0, c1, c2, c3⟩ := cells4f h1
  have f0 := frozz h1 0
  have f1 := frozz h1 1
  have f2 := frozz h1 2
  have f3 := frozz h1 3
  obtain ⟨d0, d1, d2, d3⟩ := cells4f h2
  have e0 := frozz h2 0
  have e1 := frozz h2 1
  have e2 := frozz h2 2
  have e3 := frozz h2 3
  have H1 := Lib.hid h1
  have H2 := Lib.hid h2
  have G := Lib.hid g
  clear h1 h2 hg g
  go_wp2_with fail
  refine (HK.out _).mono ?_
  rintro _ w2 ⟨rfl, hg⟩
  obtain ⟨h1, h2, g⟩ := step_z H1.out H2.out G.out hg
  clear c0 c1 c2 c3 d0 d1 d2 d3 e0 e1 e2 e3 f0 f1 f2 f3
  obtain ⟨c0, c1, c2, c3⟩ := cells4f h1
  have f0 := frozz h1 0
  have f1 := frozz h1 1
  have f2 := frozz h1 2
  have f3 := frozz h1 3
  obtain ⟨d0, d1, d2, d3⟩ := cells4f h2
  have e0 := frozz h2 0
  have e1 := frozz h2 1
  have e2 := frozz h2 2
  have e3 := frozz h2 3
  have H1 := Lib.hid h1
  have H2 := Lib.hid h2
  have G := Lib.hid g
  clear h1 h2 hg g
  go_wp2_with fail
  refine (HR2.out _ G.out).mono ?_
  rintro _ w3 ⟨rfl, hg⟩
  have h1 := hg.block H1.out
  have h2 := hg.block H2.out
  have g := G.out.trans hg
  clear c0 c1 c2 c3 d0 d1 d2 d3 e0 e1 e2 e3 f0 f1 f2 f3
  obtain ⟨c0, c1, c2, c3⟩ := cells4f h1
  have f0 := frozz h1 0
  have f1 := frozz h1 1
  have f2 := frozz h1 2
  have f3 := frozz h1 3
  obtain ⟨d0, d1, d2, d3⟩ := cells4f h2
  have e0 := frozz h2 0
  have e1 := frozz h2 1
  have e2 := frozz h2 2
  have e3 := frozz h2 3
  have H1 := Lib.hid h1
  have H2 := Lib.hid h2
  have G := Lib.hid g
  clear h1 h2 hg g
  go_wp2
  go_step3
  refine (‹∀ (a : Act) (w : World), Code.wp _ _ _ a w → _›) _ _ ?_
  go_wp2
  go_step3
  dsimp +zetaDelta only [Exit.then]
  refine two_snd (l0 := 1) (l1 := 0) (by decide) ?_
  show Code.wp _ _ _ _ _
  go_wp2
  rw [Exit.noGoto_ret]
  exact bodyPost_ret (v := badv 4) (by simp [results, Try.results30, go_sem, c0, c1, c2, c3]) rfl ⟨rfl, ((((G.out).st (by simp) _).st (by simp) _).st (by simp) _).st (by simp) _⟩

set_option maxRecDepth 100000 in
set_option maxHeartbeats 4000000 in
theorem look_bytes (l : List Nat) (ba oa n c r1 r2 : Nat) (w : World) (HR : Hid (Calls Try.prog 38 #[.slice (some ⟨ba, oa, none⟩) n c] ((w.alloc fz).alloc fz) (Ret (rdv (r1, r2, 0)) ((w.alloc fz).alloc fz)))) (hr1 : r1 < 18446744073709551616) (hn1 : ¬ (r1 : Int) / 8 < 1) (hn2 : ¬ 536870911 < (r1 : Int) / 8) (HK : Hid (∀ w, Calls Try.prog 34 #[.int .i64 ((r1 : Int) % 8)] w (Ret (.bool true) w))) (b0 : ((r1 : Int) % 8 == 0) = false) (b1 : ((r1 : Int) % 8 == 1) = false) (b5 : ((r1 : Int) % 8 == 5) = false) (hr2 : r2 ≤ n) (hnc : n ≤ c) (hn9 : n ≤ 17592186044416) (q1 q2 q3 : Nat) (HR2 : Hid (∀ w2, Grows w w2 → Calls Try.prog 38 #[.slice (some ⟨ba, oa + r2, none⟩) (n - r2) (c - r2)] w2 (Ret (rdv (q1, q2, 0)) w2))) (hlc : r2 < c) (hq2 : r2 + q2 ≤ n) (hq : ¬ (n : Int) < (q1 : Int)) (hq3 : ¬ (n : Int) - ((r2 : Int) + (q2 : Int)) < (q1 : Int)) :
    Calls Try.prog 30 #[.slice (some ⟨ba, oa, none⟩) n c] w (Ret (.tuple #[.agg #[.int .i64 ((r1 : Int) / 8), .int .i64 ((r1 : Int) % 8), .int .u64 0, .slice none 0 0], .int .i64 ((r2 : Int) + (q2 : Int)), .int .i64 (q1 : Int), .int .i64 0]) w) := by
  go_enter Try.func30, Try.ntmps30
  go_wp2
  refine wp_scope_fw2 1 0 rfl rfl ?_
  go_wp2_with fail
  refine HR.out.mono ?_
  rintro _ w1 ⟨rfl, hg⟩
  obtain ⟨h1, h2, g⟩ := two_z hg
  obtain ⟨c0, c1, c2, c3⟩ := cells4f h1
  have f0 := frozz h1 0
  have f1 := frozz h1 1
  have f2 := frozz h1 2
  have f3 := frozz h1 3
  obtain ⟨d0, d1, d2, d3⟩ := cells4f h2
  have e0 := frozz h2 0
  have e1 := frozz h2 1
  have e2 := frozz h2 2
  have e3 := frozz h2 3
  have H1 := Lib.hid h1
  have H2 := Lib.hid h2
  have G := Lib.hid g
  clear h1 h2 hg g
  go_wp2_with fail
  refine (HK.out _).mono ?_
  rintro _ w2 ⟨rfl, hg⟩
  obtain ⟨h1, h2, g⟩ := step_z H1.out H2.out G.out hg
  clear c0 c1 c2 c3 d0 d1 d2 d3 e0 e1 e2 e3 f0 f1 f2 f3
  obtain ⟨c0, c1, c2, c3⟩ := cells4f h1
  have f0 := frozz h1 0
  have f1 := frozz h1 1
  have f2 := frozz h1 2
  have f3 := frozz h1 3
  obtain ⟨d0, d1, d2, d3⟩ := cells4f h2
  have e0 := frozz h2 0
  have e1 := frozz h2 1
  have e2 := frozz h2 2
  have e3 := frozz h2 3
  have H1 := Lib.hid h1
  have H2 := Lib.hid h2
  have G := Lib.hid g
  clear h1 h2 hg g
  go_wp2_with fail
  refine (HR2.out _ G.out).mono ?_
  rintro _ w3 ⟨rfl, hg⟩
  have h1 := hg.block H1.out
  have h2 := hg.block H2.out
  have g := G.out.trans hg
  clear c0 c1 c2 c3 d0 d1 d2 d3 e0 e1 e2 e3 f0 f1 f2 f3
  obtain ⟨c0, c1, c2, c3⟩ := cells4f h1
  have f0 := frozz h1 0
  have f1 := frozz h1 1
  have f2 := frozz h1 2
  have f3 := frozz h1 3
  obtain ⟨d0, d1, d2, d3⟩ := cells4f h2
  have e0 := frozz h2 0
  have e1 := frozz h2 1
  have e2 := frozz h2 2
  have e3 := frozz h2 3
  have H1 := Lib.hid h1
  have H2 := Lib.hid h2
  have G := Lib.hid g
  clear h1 h2 hg g
  go_wp2
  go_step3
  refine (‹∀ (a : Act) (w : World), Code.wp _ _ _ a w → _›) _ _ ?_
  go_wp2
  dsimp +zetaDelta only [Exit.then, Exit.two]
  exact bodyPost_ret (v := .tuple #[.agg #[.int .i64 ((r1 : Int) / 8), .int .i64 ((r1 : Int) % 8), .int .u64 0, .slice none 0 0], .int .i64 ((r2 : Int) + (q2 : Int)), .int .i64 (q1 : Int), .int .i64 0]) (by simp [results, Try.results30, go_sem, c0, c1, c2, c3]) rfl ⟨rfl, ((((G.out).st (by simp) _).st (by simp) _).st (by simp) _).st (by simp) _⟩
end Go.Proofs.Ytdiciboaehdckaa
