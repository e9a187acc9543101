/-
  Layer 8: a look at a field.
-/
import Derived.Test.YtdiciboaehdckaaD2
import Derived.Test.YtdiciboaehdckaaSc
namespace Go.Proofs.Ytdiciboaehdckaa
open Go.RowKit Go.Tab Go.Fwd

abbrev fz : Obj := .cells #[.int .i64 0, .int .i64 0, .int .u64 0, .slice none 0 0] 41
/-- The two blocks that it makes first. -/
theorem two_z {w w1 : World} (h : Grows ((w.alloc fz).alloc fz) w1) : w1.heap[w.heap.size]? = some fz ∧ w1.heap[w.heap.size + 1]? = some fz ∧ Grows w w1 :=
  ⟨h.block ((Grows.alloc _ _).block (heap_new _ _ _ rfl)), h.block (heap_new _ _ _ (by simp only [World.size_alloc])), (((Grows.refl w).al _).al _).trans h⟩
theorem step_z {w w1 w2 : World} {x y z u : Value} (h1 : w1.heap[w.heap.size]? = some fz) (h2 : w1.heap[w.heap.size + 1]? = some fz) (g : Grows w w1)
    (hg : Grows ((((w1.setCell ⟨w.heap.size + 1, 0, none⟩ x).setCell ⟨w.heap.size + 1, 1, none⟩ y).setCell ⟨w.heap.size + 1, 2, none⟩ z).setCell ⟨w.heap.size + 1, 3, none⟩ u) w2) :
    w2.heap[w.heap.size]? = some fz ∧ w2.heap[w.heap.size + 1]? = some (.cells #[x, y, z, u] 41 (0, 0)) ∧ Grows w w2 :=
  ⟨hg.block ((set4o (by omega)).trans h1), hg.block (set4 h2), ((((g.st (by simp) _).st (by simp) _).st (by simp) _).st (by simp) _).trans hg⟩
abbrev badv (e : Nat) : Value := .tuple #[.agg #[.int .i64 0, .int .i64 0, .int .u64 0, .slice none 0 0], .int .i64 0, .int .i64 0, .int .i64 (e : Int)]

set_option maxRecDepth 100000 in
set_option maxHeartbeats 4000000 in
theorem look_bad (v : Value) (l : List Nat) (w : World) (hp : NumsAt .u8 w v l) (hx : ∀ x ∈ l, x < 256) (he : ¬ (rd l).2.2 = 0) : Calls Try.prog 30 #[v] w (Ret (badv (rd l).2.2) w) := by
  have HR := Lib.hid (read_any v l _ (hp.grows (((Grows.refl w).al fz).al fz)) hx)
  obtain ⟨a, c, rfl⟩ := hp.shape
  generalize rd l = r at HR he ⊢
  obtain ⟨r1, r2, r3⟩ := r
  simp only at he ⊢
  have b3 : ((r3 : Int) != 0) = true := by simpa using he
  clear he hp hx
  go_enter Try.func30, Try.ntmps30
  go_wp2
  refine wp_scope_fw2 1 0 rfl rfl ?_
  go_wp2_with fail
  refine HR.out.mono ?_
  rintro _ w1 ⟨rfl, hg⟩
  obtain ⟨h1, h2, g⟩ := two_z hg
  obtain ⟨c0, c1, c2, c3⟩ := cells4f h1
  have f0 := frozz h1 0
  have f1 := frozz h1 1
  have f2 := frozz h1 2
  have f3 := frozz h1 3
  obtain ⟨d0, d1, d2, d3⟩ := cells4f h2
  have e0 := frozz h2 0
  have e1 := frozz h2 1
  have e2 := frozz h2 2
  have e3 := frozz h2 3
  have H1 := Lib.hid h1
  have H2 := Lib.hid h2
  have G := Lib.hid g
  clear h1 h2 hg g
  go_wp2
  go_step3
  dsimp +zetaDelta only [Exit.then]
  refine two_snd (l0 := 1) (l1 := 0) (by decide) ?_
  show Code.wp _ _ _ _ _
  go_wp2
  rw [Exit.noGoto_ret]
  exact bodyPost_ret (v := badv r3) (by simp [results, Try.results30, go_sem, c0, c1, c2, c3]) rfl ⟨rfl, ((((G.out).st (by simp) _).st (by simp) _).st (by simp) _).st (by simp) _⟩

set_option maxRecDepth 100000 in
set_option maxHeartbeats 4000000 in
theorem look_num1 (l : List Nat) (ba oa n c r1 r2 : Nat) (w : World) (HR : Hid (Calls Try.prog 38 #[.slice (some ⟨ba, oa, none⟩) n c] ((w.alloc fz).alloc fz) (Ret (rdv (r1, r2, 0)) ((w.alloc fz).alloc fz)))) (hr1 : r1 < 18446744073709551616) (hn : (r1 : Int) / 8 < 1) :
    Calls Try.prog 30 #[.slice (some ⟨ba, oa, none⟩) n c] w (Ret (badv 5) w) := by
  go_enter Try.func30, Try.ntmps30
  go_wp2
  refine wp_scope_fw2 1 0 rfl rfl ?_
  go_wp2_with fail
  refine HR.out.mono ?_
  rintro _ w1 ⟨rfl, hg⟩
  obtain ⟨h1, h2, g⟩ := two_z hg
  obtain ⟨c0, c1, c2, c3⟩ := cells4f h1
  have f0 := frozz h1 0
  have f1 := frozz h1 1
  have f2 := frozz h1 2
  have f3 := frozz h1 3
  obtain ⟨d0, d1, d2, d3⟩ := cells4f h2
  have e0 := frozz h2 0
  have e1 := frozz h2 1
  have e2 := frozz h2 2
  have e3 := frozz h2 3
  have H1 := Lib.hid h1
  have H2 := Lib.hid h2
  have G := Lib.hid g
  clear h1 h2 hg g
  go_wp2
  go_step3
  dsimp +zetaDelta only [Exit.then]
  refine two_snd (l0 := 1) (l1 := 0) (by decide) ?_
  show Code.wp _ _ _ _ _
  go_wp2
  rw [Exit.noGoto_ret]
  exact bodyPost_ret (v := badv 5) (by simp [results, Try.results30, go_sem, c0, c1, c2, c3]) rfl ⟨rfl, ((((((((G.out).st (by simp) _).st (by simp) _).st (by simp) _).st (by simp) _).st (by simp) _).st (by simp) _).st (by simp) _).st (by simp) _⟩

set_option maxRecDepth 100000 in
set_option maxHeartbeats 4000000 in
theorem look_num2 (l : List Nat) (ba oa n c r1 r2 : Nat) (w : World) (HR : Hid (Calls Try.prog 38 #[.slice (some ⟨ba, oa, none⟩) n c] ((w.alloc fz).alloc fz) (Ret (rdv (r1, r2, 0)) ((w.alloc fz).alloc fz)))) (hr1 : r1 < 18446744073709551616) (hn1 : ¬ (r1 : Int) / 8 < 1) (hn : 536870911 < (r1 : Int) / 8) :
    Calls Try.prog 30 #[.slice (some ⟨ba, oa, none⟩) n c] w (Ret (badv 5) w) := by
  go_enter Try.func30, Try.ntmps30
  go_wp2
  refine wp_scope_fw2 1 0 rfl rfl ?_
  go_wp2_with fail
  refine HR.out.mono ?_
  rintro _ w1 ⟨rfl, hg⟩
  obtain ⟨h1, h2, g⟩ := two_z hg
  obtain ⟨c0, c1, c2, c3⟩ := cells4f h1
  have f0 := frozz h1 0
  have f1 := frozz h1 1
  have f2 := frozz h1 2
  have f3 := frozz h1 3
  obtain ⟨d0, d1, d2, d3⟩ := cells4f h2
  have e0 := frozz h2 0
  have e1 := frozz h2 1
  have e2 := frozz h2 2
  have e3 := frozz h2 3
  have H1 := Lib.hid h1
  have H2 := Lib.hid h2
  have G := Lib.hid g
  clear h1 h2 hg g
  go_wp2
  go_step3
  dsimp +zetaDelta only [Exit.then]
  refine two_snd (l0 := 1) (l1 := 0) (by decide) ?_
  show Code.wp _ _ _ _ _
  go_wp2
  rw [Exit.noGoto_ret]
  exact bodyPost_ret (v := badv 5) (by simp [results, Try.results30, go_sem, c0, c1, c2, c3]) rfl ⟨rfl, ((((((((G.out).st (by simp) _).st (by simp) _).st (by simp) _).st (by simp) _).st (by simp) _).st (by simp) _).st (by simp) _).st (by simp) _⟩

set_option maxRecDepth 100000 in
set_option maxHeartbeats 4000000 in
theorem look_kind (l : List Nat) (ba oa n c r1 r2 : Nat) (w : World) (HR : Hid (Calls Try.prog 38 #[.slice (some ⟨ba, oa, none⟩) n c] ((w.alloc fz).alloc fz) (Ret (rdv (r1, r2, 0)) ((w.alloc fz).alloc fz)))) (hr1 : r1 < 18446744073709551616) (hn1 : ¬ (r1 : Int) / 8 < 1) (hn2 : ¬ 536870911 < (r1 : Int) / 8) (HK : Hid (∀ w, Calls Try.prog 34 #[.int .i64 ((r1 : Int) % 8)] w (Ret (.bool false) w))) :
    Calls Try.prog 30 #[.slice (some ⟨ba, oa, none⟩) n c] w (Ret (badv 14) w) := by
  go_enter Try.func30, Try.ntmps30
  go_wp2
  refine wp_scope_fw2 1 0 rfl rfl ?_
  go_wp2_with fail
  refine HR.out.mono ?_
  rintro _ w1 ⟨rfl, hg⟩
  obtain ⟨h1, h2, g⟩ := two_z hg
  obtain ⟨c0, c1, c2, c3⟩ := cells4f h1
  have f0 := frozz h1 0
  have f1 := frozz h1 1
  have f2 := frozz h1 2
  have f3 := frozz h1 3
  obtain ⟨d0, d1, d2, d3⟩ := cells4f h2
  have e0 := frozz h2 0
  have e1 := frozz h2 1
  have e2 := frozz h2 2
  have e3 := frozz h2 3
  have H1 := Lib.hid h1
  have H2 := Lib.hid h2
  have G := Lib.hid g
  clear h1 h2 hg g
  go_wp2_with fail
  refine (HK.out _).mono ?_
  rintro _ w2 ⟨rfl, hg⟩
  obtain ⟨h1, h2, g⟩ := step_z H1.out H2.out G.out hg
  clear c0 c1 c2 c3 d0 d1 d2 d3 e0 e1 e2 e3 f0 f1 f2 f3
  obtain ⟨c0, c1, c2, c3⟩ := cells4f h1
  have f0 := frozz h1 0
  have f1 := frozz h1 1
  have f2 := frozz h1 2
  have f3 := frozz h1 3
  obtain ⟨d0, d1, d2, d3⟩ := cells4f h2
  have e0 := frozz h2 0
  have e1 := frozz h2 1
  have e2 := frozz h2 2
  have e3 := frozz h2 3
  have H1 := Lib.hid h1
  have H2 := Lib.hid h2
  have G := Lib.hid g
  clear h1 h2 hg g
  go_wp2
  go_step3
  dsimp +zetaDelta only [Exit.then]
  refine two_snd (l0 := 1) (l1 := 0) (by decide) ?_
  show Code.wp _ _ _ _ _
  go_wp2
  rw [Exit.noGoto_ret]
  exact bodyPost_ret (v := badv 14) (by simp [results, Try.results30, go_sem, c0, c1, c2, c3]) rfl ⟨rfl, ((((G.out).st (by simp) _).st (by simp) _).st (by simp) _).st (by simp) _⟩

set_option maxRecDepth 100000 in
set_option maxHeartbeats 4000000 in
theorem look_short1 (l : List Nat) (ba oa n c r1 r2 : Nat) (w : World) (HR : Hid (Calls Try.prog 38 #[.slice (some ⟨ba, oa, none⟩) n c] ((w.alloc fz).alloc fz) (Ret (rdv (r1, r2, 0)) ((w.alloc fz).alloc fz)))) (hr1 : r1 < 18446744073709551616) (hn1 : ¬ (r1 : Int) / 8 < 1) (hn2 : ¬ 536870911 < (r1 : Int) / 8) (HK : Hid (∀ w, Calls Try.prog 34 #[.int .i64 ((r1 : Int) % 8)] w (Ret (.bool true) w))) (HW : Hid (∀ w, Calls Try.prog 25 #[.int .i64 ((r1 : Int) % 8)] w (Ret (.int .i64 8) w))) (b1 : ((r1 : Int) % 8 == 1) = true) (b5 : ((r1 : Int) % 8 == 5) = false) (hr2 : r2 ≤ n) (hn9 : n ≤ 17592186044416) (hs : (n : Int) - (r2 : Int) < 8) :
    Calls Try.prog 30 #[.slice (some ⟨ba, oa, none⟩) n c] w (Ret (badv 4) w) := by
  go_enter Try.func30, Try.ntmps30
  go_wp2
  refine wp_scope_fw2 1 0 rfl rfl ?_
  go_wp2_with fail
  refine HR.out.mono ?_
  rintro _ w1 ⟨rfl, hg⟩
  obtain ⟨h1, h2, g⟩ := two_z hg
  obtain ⟨c0, c1, c2, c3⟩ := cells4f h1
  have f0 := frozz h1 0
  have f1 := frozz h1 1
  have f2 := frozz h1 2
  have f3 := frozz h1 3
  obtain ⟨d0, d1, d2, d3⟩ := cells4f h2
  have e0 := frozz h2 0
  have e1 := frozz h2 1
  have e2 := frozz h2 2
  have e3 := frozz h2 3
  have H1 := Lib.hid h1
  have H2 := Lib.hid h2
  have G := Lib.hid g
  clear h1 h2 hg g
  go_wp2_with fail
  refine (HK.out _).mono ?_
  rintro _ w2 ⟨rfl, hg⟩
  obtain ⟨h1, h2, g⟩ := step_z H1.out H2.out G.out hg
  clear c0 c1 c2 c3 d0 d1 d2 d3 e0 e1 e2 e3 f0 f1 f2 f3
  obtain ⟨c0, c1, c2, c3⟩ := cells4f h1
  have f0 := frozz h1 0
  have f1 := frozz h1 1
  have f2 := frozz h1 2
  have f3 := frozz h1 3
  obtain ⟨d0, d1, d2, d3⟩ := cells4f h2
  have e0 := frozz h2 0
  have e1 := frozz h2 1
  have e2 := frozz h2 2
  have e3 := frozz h2 3
  have H1 := Lib.hid h1
  have H2 := Lib.hid h2
  have G := Lib.hid g
  clear h1 h2 hg g
  go_wp2_with fail
  refine (HW.out _).mono ?_
  rintro _ w3 ⟨rfl, hg⟩
  have h1 := hg.block H1.out
  have h2 := hg.block H2.out
  have g := G.out.trans hg
  clear c0 c1 c2 c3 d0 d1 d2 d3 e0 e1 e2 e3 f0 f1 f2 f3
  obtain ⟨c0, c1, c2, c3⟩ := cells4f h1
  have f0 := frozz h1 0
  have f1 := frozz h1 1
  have f2 := frozz h1 2
  have f3 := frozz h1 3
  obtain ⟨d0, d1, d2, d3⟩ := cells4f h2
  have e0 := frozz h2 0
  have e1 := frozz h2 1
  have e2 := frozz h2 2
  have e3 := frozz h2 3
  have H1 := Lib.hid h1
  have H2 := Lib.hid h2
  have G := Lib.hid g
  clear h1 h2 hg g
  go_wp2
  go_step3
  dsimp +zetaDelta only [Exit.then]
  refine two_fst (l0 := 1) (l1 := 0) ?_
  show Code.wp _ _ _ _ _
  go_wp2
  go_step3
  dsimp +zetaDelta only [Exit.then]
  refine one_fst (l0 := 0) ?_
  show Code.wp _ _ _ _ _
  go_wp2
  rw [Exit.noGoto_ret]
  exact bodyPost_ret (v := badv 4) (by simp [results, Try.results30, go_sem, c0, c1, c2, c3]) rfl ⟨rfl, ((((G.out).st (by simp) _).st (by simp) _).st (by simp) _).st (by simp) _⟩

set_option maxRecDepth 100000 in
set_option maxHeartbeats 4000000 in
theorem look_wide1 (l : List Nat) (ba oa n c r1 r2 : Nat) (w : World) (HR : Hid (Calls Try.prog 38 #[.slice (some ⟨ba, oa, none⟩) n c] ((w.alloc fz).alloc fz) (Ret (rdv (r1, r2, 0)) ((w.alloc fz).alloc fz)))) (hr1 : r1 < 18446744073709551616) (hn1 : ¬ (r1 : Int) / 8 < 1) (hn2 : ¬ 536870911 < (r1 : Int) / 8) (HK : Hid (∀ w, Calls Try.prog 34 #[.int .i64 ((r1 : Int) % 8)] w (Ret (.bool true) w))) (HW : Hid (∀ w, Calls Try.prog 25 #[.int .i64 ((r1 : Int) % 8)] w (Ret (.int .i64 8) w))) (b1 : ((r1 : Int) % 8 == 1) = true) (b5 : ((r1 : Int) % 8 == 5) = false) (hr2 : r2 ≤ n) (hn9 : n ≤ 17592186044416) (hs : ¬ (n : Int) - (r2 : Int) < 8) :
    Calls Try.prog 30 #[.slice (some ⟨ba, oa, none⟩) n c] w (Ret (.tuple #[.agg #[.int .i64 ((r1 : Int) / 8), .int .i64 ((r1 : Int) % 8), .int .u64 0, .slice none 0 0], .int .i64 (r2 : Int), .int .i64 8, .int .i64 0]) w) := by
  go_enter Try.func30, Try.ntmps30
  go_wp2
  refine wp_scope_fw2 1 0 rfl rfl ?_
  go_wp2_with fail
  refine HR.out.mono ?_
  rintro _ w1 ⟨rfl, hg⟩
  obtain ⟨h1, h2, g⟩ := two_z hg
  obtain ⟨c0, c1, c2, c3⟩ := cells4f h1
  have f0 := frozz h1 0
  have f1 := frozz h1 1
  have f2 := frozz h1 2
  have f3 := frozz h1 3
  obtain ⟨d0, d1, d2, d3⟩ := cells4f h2
  have e0 := frozz h2 0
  have e1 := frozz h2 1
  have e2 := frozz h2 2
  have e3 := frozz h2 3
  have H1 := Lib.hid h1
  have H2 := Lib.hid h2
  have G := Lib.hid g
  clear h1 h2 hg g
  go_wp2_with fail
  refine (HK.out _).mono ?_
  rintro _ w2 ⟨rfl, hg⟩
  obtain ⟨h1, h2, g⟩ := step_z H1.out H2.out G.out hg
  clear c0 c1 c2 c3 d0 d1 d2 d3 e0 e1 e2 e3 f0 f1 f2 f3
  obtain ⟨c0, c1, c2, c3⟩ := cells4f h1
  have f0 := frozz h1 0
  have f1 := frozz h1 1
  have f2 := frozz h1 2
  have f3 := frozz h1 3
  obtain ⟨d0, d1, d2, d3⟩ := cells4f h2
  have e0 := frozz h2 0
  have e1 := frozz h2 1
  have e2 := frozz h2 2
  have e3 := frozz h2 3
  have H1 := Lib.hid h1
  have H2 := Lib.hid h2
  have G := Lib.hid g
  clear h1 h2 hg g
  go_wp2_with fail
  refine (HW.out _).mono ?_
  rintro _ w3 ⟨rfl, hg⟩
  have h1 := hg.block H1.out
  have h2 := hg.block H2.out
  have g := G.out.trans hg
  clear c0 c1 c2 c3 d0 d1 d2 d3 e0 e1 e2 e3 f0 f1 f2 f3
  obtain ⟨c0, c1, c2, c3⟩ := cells4f h1
  have f0 := frozz h1 0
  have f1 := frozz h1 1
  have f2 := frozz h1 2
  have f3 := frozz h1 3
  obtain ⟨d0, d1, d2, d3⟩ := cells4f h2
  have e0 := frozz h2 0
  have e1 := frozz h2 1
  have e2 := frozz h2 2
  have e3 := frozz h2 3
  have H1 := Lib.hid h1
  have H2 := Lib.hid h2
  have G := Lib.hid g
  clear h1 h2 hg g
  go_wp2
  go_step3
  dsimp +zetaDelta only [Exit.then]
  refine two_fst (l0 := 1) (l1 := 0) ?_
  show Code.wp _ _ _ _ _
  go_wp2
  simp only [Exit.one]
  exact bodyPost_ret (v := .tuple #[.agg #[.int .i64 ((r1 : Int) / 8), .int .i64 ((r1 : Int) % 8), .int .u64 0, .slice none 0 0], .int .i64 (r2 : Int), .int .i64 8, .int .i64 0]) (by simp [results, Try.results30, go_sem, c0, c1, c2, c3]) rfl ⟨rfl, ((((G.out).st (by simp) _).st (by simp) _).st (by simp) _).st (by simp) _⟩

set_option maxRecDepth 100000 in
set_option maxHeartbeats 4000000 in
theorem look_short5 (l : List Nat) (ba oa n c r1 r2 : Nat) (w : World) (HR : Hid (Calls Try.prog 38 #[.slice (some ⟨ba, oa, none⟩) n c] ((w.alloc fz).alloc fz) (Ret (rdv (r1, r2, 0)) ((w.alloc fz).alloc fz)))) (hr1 : r1 < 18446744073709551616) (hn1 : ¬ (r1 : Int) / 8 < 1) (hn2 : ¬ 536870911 < (r1 : Int) / 8) (HK : Hid (∀ w, Calls Try.prog 34 #[.int .i64 ((r1 : Int) % 8)] w (Ret (.bool true) w))) (HW : Hid (∀ w, Calls Try.prog 25 #[.int .i64 ((r1 : Int) % 8)] w (Ret (.int .i64 4) w))) (b1 : ((r1 : Int) % 8 == 1) = false) (b5 : ((r1 : Int) % 8 == 5) = true) (hr2 : r2 ≤ n) (hn9 : n ≤ 17592186044416) (hs : (n : Int) - (r2 : Int) < 4) :
    Calls Try.prog 30 #[.slice (some ⟨ba, oa, none⟩) n c] w (Ret (badv 4) w) := by
  go_enter Try.func30, Try.ntmps30
  go_wp2
  refine wp_scope_fw2 1 0 rfl rfl ?_
  go_wp2_with fail
  refine HR.out.mono ?_
  rintro _ w1 ⟨rfl, hg⟩
  obtain ⟨h1, h2, g⟩ := two_z hg
  obtain ⟨c0, c1, c2, c3⟩ := cells4f h1
  have f0 := frozz h1 0
  have f1 := frozz h1 1
  have f2 := frozz h1 2
  have f3 := frozz h1 3
  obtain ⟨d0, d1, d2, d3⟩ := cells4f h2
  have e0 := frozz h2 0
  have e1 := frozz h2 1
  have e2 := frozz h2 2
  have e3 := frozz h2 3
  have H1 := Lib.hid h1
  have H2 := Lib.hid h2
  have G := Lib.hid g
  clear h1 h2 hg g
  go_wp2_with fail
  refine (HK.out _).mono ?_
  rintro _ w2 ⟨rfl, hg⟩
  obtain ⟨h1, h2, g⟩ := step_z H1.out H2.out G.out hg
  clear c0 c1 c2 c3 d0 d1 d2 d3 e0 e1 e2 e3 f0 f1 f2 f3
  obtain ⟨c0, c1, c2, c3⟩ := cells4f h1
  have f0 := frozz h1 0
  have f1 := frozz h1 1
  have f2 := frozz h1 2
  have f3 := frozz h1 3
  obtain ⟨d0, d1, d2, d3⟩ := cells4f h2
  have e0 := frozz h2 0
  have e1 := frozz h2 1
  have e2 := frozz h2 2
  have e3 := frozz h2 3
  have H1 := Lib.hid h1
  have H2 := Lib.hid h2
  have G := Lib.hid g
  clear h1 h2 hg g
  go_wp2_with fail
  refine (HW.out _).mono ?_
  rintro _ w3 ⟨rfl, hg⟩
  have h1 := hg.block H1.out
  have h2 := hg.block H2.out
  have g := G.out.trans hg
  clear c0 c1 c2 c3 d0 d1 d2 d3 e0 e1 e2 e3 f0 f1 f2 f3
  obtain ⟨c0, c1, c2, c3⟩ := cells4f h1
  have f0 := frozz h1 0
  have f1 := frozz h1 1
  have f2 := frozz h1 2
  have f3 := frozz h1 3
  obtain ⟨d0, d1, d2, d3⟩ := cells4f h2
  have e0 := frozz h2 0
  have e1 := frozz h2 1
  have e2 := frozz h2 2
  have e3 := frozz h2 3
  have H1 := Lib.hid h1
  have H2 := Lib.hid h2
  have G := Lib.hid g
  clear h1 h2 hg g
  go_wp2
  go_step3
  dsimp +zetaDelta only [Exit.then]
  refine two_fst (l0 := 1) (l1 := 0) ?_
  show Code.wp _ _ _ _ _
  go_wp2
  go_step3
  dsimp +zetaDelta only [Exit.then]
  refine one_fst (l0 := 0) ?_
  show Code.wp _ _ _ _ _
  go_wp2
  rw [Exit.noGoto_ret]
  exact bodyPost_ret (v := badv 4) (by simp [results, Try.results30, go_sem, c0, c1, c2, c3]) rfl ⟨rfl, ((((G.out).st (by simp) _).st (by simp) _).st (by simp) _).st (by simp) _⟩

set_option maxRecDepth 100000 in
set_option maxHeartbeats 4000000 in
theorem look_wide5 (l : List Nat) (ba oa n c r1 r2 : Nat) (w : World) (HR : Hid (Calls Try.prog 38 #[.slice (some ⟨ba, oa, none⟩) n c] ((w.alloc fz).alloc fz) (Ret (rdv (r1, r2, 0)) ((w.alloc fz).alloc fz)))) (hr1 : r1 < 18446744073709551616) (hn1 : ¬ (r1 : Int) / 8 < 1) (hn2 : ¬ 536870911 < (r1 : Int) / 8) (HK : Hid (∀ w, Calls Try.prog 34 #[.int .i64 ((r1 : Int) % 8)] w (Ret (.bool true) w))) (HW : Hid (∀ w, Calls Try.prog 25 #[.int .i64 ((r1 : Int) % 8)] w (Ret (.int .i64 4) w))) (b1 : ((r1 : Int) % 8 == 1) = false) (b5 : ((r1 : Int) % 8 == 5) = true) (hr2 : r2 ≤ n) (hn9 : n ≤ 17592186044416) (hs : ¬ (n : Int) - (r2 : Int) < 4) :
    Calls Try.prog 30 #[.slice (some ⟨ba, oa, none⟩) n c] w (Ret (.tuple #[.agg #[.int .i64 ((r1 : Int) / 8), .int .i64 ((r1 : Int) % 8), .int .u64 0, .slice none 0 0], .int .i64 (r2 : Int), .int .i64 4, .int .i64 0]) w) := by
  go_enter Try.func30, Try.ntmps30
  go_wp2
  refine wp_scope_fw2 1 0 rfl rfl ?_
  go_wp2_with fail
  refine HR.out.mono ?_
  rintro _ w1 ⟨rfl, hg⟩
  obtain ⟨h1, h2, g⟩ := two_z hg
  obtain ⟨c0, c1, c2, c3⟩ := cells4f h1
  have f0 := frozz h1 0
  have f1 := frozz h1 1
  have f2 := frozz h1 2
  have f3 := frozz h1 3
  obtain ⟨d0, d1, d2, d3⟩ := cells4f h2
  have e0 := frozz h2 0
  have e1 := frozz h2 1
  have e2 := frozz h2 2
  have e3 := frozz h2 3
  have H1 := Lib.hid h1
  have H2 := Lib.hid h2
  have G := Lib.hid g
  clear h1 h2 hg g
  go_wp2_with fail
  refine (HK.out _).mono ?_
  rintro _ w2 ⟨rfl, hg⟩
  obtain ⟨h1, h2, g⟩ := step_z H1.out H2.out G.out hg
  clear c0 c1 c2 c3 d0 d1 d2 d3 e0 e1 e2 e3 f0 f1 f2 f3
  obtain ⟨c0, c1, c2, c3⟩ := cells4f h1
  have f0 := frozz h1 0
  have f1 := frozz h1 1
  have f2 := frozz h1 2
  have f3 := frozz h1 3
  obtain ⟨d0, d1, d2, d3⟩ := cells4f h2
  have e0 := frozz h2 0
  have e1 := frozz h2 1
  have e2 := frozz h2 2
  have e3 := frozz h2 3
  have H1 := Lib.hid h1
  have H2 := Lib.hid h2
  have G := Lib.hid g
  clear h1 h2 hg g
  go_wp2_with fail
  refine (HW.out _).mono ?_
  rintro _ w3 ⟨rfl, hg⟩
  have h1 := hg.block H1.out
  have h2 := hg.block H2.out
  have g := G.out.trans hg
  clear c0 c1 c2 c3 d0 d1 d2 d3 e0 e1 e2 e3 f0 f1 f2 f3
  obtain ⟨c0, c1, c2, c3⟩ := cells4f h1
  have f0 := frozz h1 0
  have f1 := frozz h1 1
  have f2 := frozz h1 2
  have f3 := frozz h1 3
  obtain ⟨d0, d1, d2, d3⟩ := cells4f h2
  have e0 := frozz h2 0
  have e1 := frozz h2 1
  have e2 := frozz h2 2
  have e3 := frozz h2 3
  have H1 := Lib.hid h1
  have H2 := Lib.hid h2
  have G := Lib.hid g
  clear h1 h2 hg g
  go_wp2
  go_step3
  dsimp +zetaDelta only [Exit.then]
  refine two_fst (l0 := 1) (l1 := 0) ?_
  show Code.wp _ _ _ _ _
  go_wp2
  simp only [Exit.one]
  exact bodyPost_ret (v := .tuple #[.agg #[.int .i64 ((r1 : Int) / 8), .int .i64 ((r1 : Int) % 8), .int .u64 0, .slice none 0 0], .int .i64 (r2 : Int), .int .i64 4, .int .i64 0]) (by simp [results, Try.results30, go_sem, c0, c1, c2, c3]) rfl ⟨rfl, ((((G.out).st (by simp) _).st (by simp) _).st (by simp) _).st (by simp) _⟩
end Go.Proofs.Ytdiciboaehdckaa
