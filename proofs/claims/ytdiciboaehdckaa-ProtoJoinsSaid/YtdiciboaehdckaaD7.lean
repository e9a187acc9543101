/-
  Layer 8: reading a field: the document's answer.
-/
import Derived.Test.YtdiciboaehdckaaD6
import Derived.Laws.BytesArg
namespace Go.Proofs.Ytdiciboaehdckaa
open Go.RowKit Go.Tab

abbrev fzr : Obj := .cells #[.int .i64 0, .int .i64 0, .int .u64 0, .string ⟨#[]⟩] 45
abbrev rbadv (e : Nat) : Value := .tuple #[.agg #[.int .i64 0, .int .i64 0, .int .u64 0, .string ⟨#[]⟩], .int .i64 0, .int .i64 (e : Int)]
/-- Bytes as a text. -/
def strN (l : List Nat) : ByteArray := ⟨(l.map UInt8.ofNat).toArray⟩
theorem conv_nums {w : World} {v : Value} {l : List Nat} (h : NumsAt .u8 w v l) : (convert 24 9 v).run Try.prog w = .ok (.string (strN l)) w := by
  obtain ⟨hl, ⟨⟨a, c, rfl, hac⟩, rfl⟩ | ⟨b, off, cap, rfl, hb, hnc, hc⟩⟩ := h
  · cases a with
    | none =>
      rw [hac rfl]
      exact run_convert_bytes_nil w _ _ Try.underlying24 Try.underlying5 0 0 _ Try.underlying9
    | some a =>
      rw [run_convert_bytes_string w _ _ _ _ 0 c Try.underlying24 Try.underlying5 Try.underlying9]
      simp [Conv.bytesToString, loadCells, loadCellsFrom]
      rfl
  · have := run_convert_bytes_arg w _ _ Try.underlying24 Try.underlying5 b off l.length cap (l.map fun x : Nat => (x : Int)) (by simp) (fun i hi => by rw [hc i hi]; simp [List.getD, hi]) _ Try.underlying9
    rw [this]
    congr 2
    simp [strOfNums, strN]

set_option maxHeartbeats 1000000 in
theorem rread_bad (v : Value) (r1 r2 r3 : Nat) (w : World) (HR : Hid (Calls Try.prog 32 #[v] (w.alloc fzr) (Ret (rdv (r1, r2, r3)) (w.alloc fzr)))) (he : ¬ r3 = 0) : Calls Try.prog 17 #[v] w (Ret (rbadv r3) w) := by
  have b3 : ((r3 : Int) != 0) = true := by simpa using he
  clear he
  go_enter Try.func17, Try.ntmps17
  go_wp2_with fail
  refine HR.out.mono ?_
  rintro _ w1 ⟨rfl, hg⟩
  have h1 := hg.block (heap_new w fzr _ rfl)
  obtain ⟨c0, c1, c2, c3⟩ := cells4f h1
  have f0 := frozz h1 0
  have f1 := frozz h1 1
  have f2 := frozz h1 2
  have f3 := frozz h1 3
  have H1 := Lib.hid h1
  have G := Lib.hid (((Grows.refl w).al _).trans hg)
  have hz := hg.size
  rw [World.size_alloc] at hz
  have hw : w.heap.size < w1.heap.size := by omega
  have hne : w.heap.size ≠ w1.heap.size := Nat.ne_of_lt hw
  clear hg h1 hz
  go_wp2
  exact bodyPost_ret (v := rbadv r3) (by simp [results, Try.results17, go_sem, c0, c1, c2, c3, hw, hne]) rfl ⟨rfl, ((((G.out).st (Nat.le_refl _) _).st (Nat.le_refl _) _).st (Nat.le_refl _) _).st (Nat.le_refl _) _⟩

set_option maxRecDepth 100000 in
set_option maxHeartbeats 4000000 in
theorem rread_num1 (ba oa n c r1 r2 r3 : Nat) (w : World) (HR : Hid (Calls Try.prog 32 #[.slice (some ⟨ba, oa, none⟩) n c] (w.alloc fzr) (Ret (rdv (r1, r2, r3)) (w.alloc fzr)))) (hr1 : r1 < 18446744073709551616) (hr3 : r3 = 0) (hn : (r1 : Int) / 8 < 1) :
    Calls Try.prog 17 #[.slice (some ⟨ba, oa, none⟩) n c] w (Ret (rbadv 5) w) := by
  subst hr3
  go_enter Try.func17, Try.ntmps17
  go_wp2_with fail
  refine HR.out.mono ?_
  rintro _ w1 ⟨rfl, hg⟩
  have h1 := hg.block (heap_new w fzr _ rfl)
  obtain ⟨c0, c1, c2, c3⟩ := cells4f h1
  have f0 := frozz h1 0
  have f1 := frozz h1 1
  have f2 := frozz h1 2
  have f3 := frozz h1 3
  have H1 := Lib.hid h1
  have G := Lib.hid (((Grows.refl w).al _).trans hg)
  have hz := hg.size
  rw [World.size_alloc] at hz
  have hw : w.heap.size < w1.heap.size := by omega
  have hne : w.heap.size ≠ w1.heap.size := Nat.ne_of_lt hw
  clear hg h1 hz
  go_wp2
  exact bodyPost_ret (v := rbadv 5) (by simp [results, Try.results17, go_sem, c0, c1, c2, c3, hw, hne]) rfl ⟨rfl, ((((G.out).st (Nat.le_refl _) _).st (Nat.le_refl _) _).st (Nat.le_refl _) _).st (Nat.le_refl _) _⟩

set_option maxRecDepth 100000 in
set_option maxHeartbeats 4000000 in
theorem rread_num2 (ba oa n c r1 r2 r3 : Nat) (w : World) (HR : Hid (Calls Try.prog 32 #[.slice (some ⟨ba, oa, none⟩) n c] (w.alloc fzr) (Ret (rdv (r1, r2, r3)) (w.alloc fzr)))) (hr1 : r1 < 18446744073709551616) (hr3 : r3 = 0) (hn1 : ¬ (r1 : Int) / 8 < 1) (hn : 536870911 < (r1 : Int) / 8) :
    Calls Try.prog 17 #[.slice (some ⟨ba, oa, none⟩) n c] w (Ret (rbadv 5) w) := by
  subst hr3
  go_enter Try.func17, Try.ntmps17
  go_wp2_with fail
  refine HR.out.mono ?_
  rintro _ w1 ⟨rfl, hg⟩
  have h1 := hg.block (heap_new w fzr _ rfl)
  obtain ⟨c0, c1, c2, c3⟩ := cells4f h1
  have f0 := frozz h1 0
  have f1 := frozz h1 1
  have f2 := frozz h1 2
  have f3 := frozz h1 3
  have H1 := Lib.hid h1
  have G := Lib.hid (((Grows.refl w).al _).trans hg)
  have hz := hg.size
  rw [World.size_alloc] at hz
  have hw : w.heap.size < w1.heap.size := by omega
  have hne : w.heap.size ≠ w1.heap.size := Nat.ne_of_lt hw
  clear hg h1 hz
  go_wp2
  exact bodyPost_ret (v := rbadv 5) (by simp [results, Try.results17, go_sem, c0, c1, c2, c3, hw, hne]) rfl ⟨rfl, ((((G.out).st (Nat.le_refl _) _).st (Nat.le_refl _) _).st (Nat.le_refl _) _).st (Nat.le_refl _) _⟩

set_option maxRecDepth 100000 in
set_option maxHeartbeats 4000000 in
theorem rread_kind3 (ba oa n c r1 r2 r3 : Nat) (w : World) (HR : Hid (Calls Try.prog 32 #[.slice (some ⟨ba, oa, none⟩) n c] (w.alloc fzr) (Ret (rdv (r1, r2, r3)) (w.alloc fzr)))) (hr1 : r1 < 18446744073709551616) (hr3 : r3 = 0) (hn1 : ¬ (r1 : Int) / 8 < 1) (hn2 : ¬ 536870911 < (r1 : Int) / 8) (b3 : ((r1 : Int) % 8 == 3) = true) :
    Calls Try.prog 17 #[.slice (some ⟨ba, oa, none⟩) n c] w (Ret (rbadv 14) w) := by
  subst hr3
  go_enter Try.func17, Try.ntmps17
  go_wp2_with fail
  refine HR.out.mono ?_
  rintro _ w1 ⟨rfl, hg⟩
  have h1 := hg.block (heap_new w fzr _ rfl)
  obtain ⟨c0, c1, c2, c3⟩ := cells4f h1
  have f0 := frozz h1 0
  have f1 := frozz h1 1
  have f2 := frozz h1 2
  have f3 := frozz h1 3
  have H1 := Lib.hid h1
  have G := Lib.hid (((Grows.refl w).al _).trans hg)
  have hz := hg.size
  rw [World.size_alloc] at hz
  have hw : w.heap.size < w1.heap.size := by omega
  have hne : w.heap.size ≠ w1.heap.size := Nat.ne_of_lt hw
  clear hg h1 hz
  go_wp2
  exact bodyPost_ret (v := rbadv 14) (by simp [results, Try.results17, go_sem, c0, c1, c2, c3, hw, hne]) rfl ⟨rfl, (((((G.out).st (Nat.le_refl _) _).st (Nat.le_refl _) _).st (Nat.le_refl _) _).st (Nat.le_refl _) _).al _⟩

set_option maxRecDepth 100000 in
set_option maxHeartbeats 4000000 in
theorem rread_kind4 (ba oa n c r1 r2 r3 : Nat) (w : World) (HR : Hid (Calls Try.prog 32 #[.slice (some ⟨ba, oa, none⟩) n c] (w.alloc fzr) (Ret (rdv (r1, r2, r3)) (w.alloc fzr)))) (hr1 : r1 < 18446744073709551616) (hr3 : r3 = 0) (hn1 : ¬ (r1 : Int) / 8 < 1) (hn2 : ¬ 536870911 < (r1 : Int) / 8) (b3 : ((r1 : Int) % 8 == 3) = false) (b4 : ((r1 : Int) % 8 == 4) = true) :
    Calls Try.prog 17 #[.slice (some ⟨ba, oa, none⟩) n c] w (Ret (rbadv 14) w) := by
  subst hr3
  go_enter Try.func17, Try.ntmps17
  go_wp2_with fail
  refine HR.out.mono ?_
  rintro _ w1 ⟨rfl, hg⟩
  have h1 := hg.block (heap_new w fzr _ rfl)
  obtain ⟨c0, c1, c2, c3⟩ := cells4f h1
  have f0 := frozz h1 0
  have f1 := frozz h1 1
  have f2 := frozz h1 2
  have f3 := frozz h1 3
  have H1 := Lib.hid h1
  have G := Lib.hid (((Grows.refl w).al _).trans hg)
  have hz := hg.size
  rw [World.size_alloc] at hz
  have hw : w.heap.size < w1.heap.size := by omega
  have hne : w.heap.size ≠ w1.heap.size := Nat.ne_of_lt hw
  clear hg h1 hz
  go_wp2
  exact bodyPost_ret (v := rbadv 14) (by simp [results, Try.results17, go_sem, c0, c1, c2, c3, hw, hne]) rfl ⟨rfl, (((((G.out).st (Nat.le_refl _) _).st (Nat.le_refl _) _).st (Nat.le_refl _) _).st (Nat.le_refl _) _).al _⟩

set_option maxRecDepth 100000 in
set_option maxHeartbeats 4000000 in
theorem rread_kind6 (ba oa n c r1 r2 r3 : Nat) (w : World) (HR : Hid (Calls Try.prog 32 #[.slice (some ⟨ba, oa, none⟩) n c] (w.alloc fzr) (Ret (rdv (r1, r2, r3)) (w.alloc fzr)))) (hr1 : r1 < 18446744073709551616) (hr3 : r3 = 0) (hn1 : ¬ (r1 : Int) / 8 < 1) (hn2 : ¬ 536870911 < (r1 : Int) / 8) (b3 : ((r1 : Int) % 8 == 3) = false) (b4 : ((r1 : Int) % 8 == 4) = false) (h5 : 5 < (r1 : Int) % 8) :
    Calls Try.prog 17 #[.slice (some ⟨ba, oa, none⟩) n c] w (Ret (rbadv 14) w) := by
  subst hr3
  go_enter Try.func17, Try.ntmps17
  go_wp2_with fail
  refine HR.out.mono ?_
  rintro _ w1 ⟨rfl, hg⟩
  have h1 := hg.block (heap_new w fzr _ rfl)
  obtain ⟨c0, c1, c2, c3⟩ := cells4f h1
  have f0 := frozz h1 0
  have f1 := frozz h1 1
  have f2 := frozz h1 2
  have f3 := frozz h1 3
  have H1 := Lib.hid h1
  have G := Lib.hid (((Grows.refl w).al _).trans hg)
  have hz := hg.size
  rw [World.size_alloc] at hz
  have hw : w.heap.size < w1.heap.size := by omega
  have hne : w.heap.size ≠ w1.heap.size := Nat.ne_of_lt hw
  clear hg h1 hz
  go_wp2
  exact bodyPost_ret (v := rbadv 14) (by simp [results, Try.results17, go_sem, c0, c1, c2, c3, hw, hne]) rfl ⟨rfl, (((((G.out).st (Nat.le_refl _) _).st (Nat.le_refl _) _).st (Nat.le_refl _) _).st (Nat.le_refl _) _).al _⟩

set_option maxRecDepth 100000 in
set_option maxHeartbeats 4000000 in
theorem rread_short1 (ba oa n c r1 r2 r3 : Nat) (w : World) (HR : Hid (Calls Try.prog 32 #[.slice (some ⟨ba, oa, none⟩) n c] (w.alloc fzr) (Ret (rdv (r1, r2, r3)) (w.alloc fzr)))) (hr1 : r1 < 18446744073709551616) (hr3 : r3 = 0) (hn1 : ¬ (r1 : Int) / 8 < 1) (hn2 : ¬ 536870911 < (r1 : Int) / 8) (b3 : ((r1 : Int) % 8 == 3) = false) (b4 : ((r1 : Int) % 8 == 4) = false) (h5 : ¬ 5 < (r1 : Int) % 8) (b5 : ((r1 : Int) % 8 == 5) = false) (b0 : ((r1 : Int) % 8 == 0) = false) (b2 : ((r1 : Int) % 8 == 2) = false) (hr2 : r2 ≤ n) (hn9 : n ≤ 17592186044416) (hs : (n : Int) - (r2 : Int) < 8) :
    Calls Try.prog 17 #[.slice (some ⟨ba, oa, none⟩) n c] w (Ret (rbadv 4) w) := by
  subst hr3
  go_enter Try.func17, Try.ntmps17
  go_wp2_with fail
  refine HR.out.mono ?_
  rintro _ w1 ⟨rfl, hg⟩
  have h1 := hg.block (heap_new w fzr _ rfl)
  obtain ⟨c0, c1, c2, c3⟩ := cells4f h1
  have f0 := frozz h1 0
  have f1 := frozz h1 1
  have f2 := frozz h1 2
  have f3 := frozz h1 3
  have H1 := Lib.hid h1
  have G := Lib.hid (((Grows.refl w).al _).trans hg)
  have hz := hg.size
  rw [World.size_alloc] at hz
  have hw : w.heap.size < w1.heap.size := by omega
  have hne : w.heap.size ≠ w1.heap.size := Nat.ne_of_lt hw
  clear hg h1 hz
  go_wp2
  exact bodyPost_ret (v := rbadv 4) (by simp [results, Try.results17, go_sem, c0, c1, c2, c3, hw, hne]) rfl ⟨rfl, (((((G.out).st (Nat.le_refl _) _).st (Nat.le_refl _) _).st (Nat.le_refl _) _).st (Nat.le_refl _) _).al _⟩

set_option maxRecDepth 100000 in
set_option maxHeartbeats 4000000 in
theorem rread_short5 (ba oa n c r1 r2 r3 : Nat) (w : World) (HR : Hid (Calls Try.prog 32 #[.slice (some ⟨ba, oa, none⟩) n c] (w.alloc fzr) (Ret (rdv (r1, r2, r3)) (w.alloc fzr)))) (hr1 : r1 < 18446744073709551616) (hr3 : r3 = 0) (hn1 : ¬ (r1 : Int) / 8 < 1) (hn2 : ¬ 536870911 < (r1 : Int) / 8) (b3 : ((r1 : Int) % 8 == 3) = false) (b4 : ((r1 : Int) % 8 == 4) = false) (h5 : ¬ 5 < (r1 : Int) % 8) (b5 : ((r1 : Int) % 8 == 5) = true) (b0 : ((r1 : Int) % 8 == 0) = false) (b2 : ((r1 : Int) % 8 == 2) = false) (hr2 : r2 ≤ n) (hn9 : n ≤ 17592186044416) (hs : (n : Int) - (r2 : Int) < 4) :
    Calls Try.prog 17 #[.slice (some ⟨ba, oa, none⟩) n c] w (Ret (rbadv 4) w) := by
  subst hr3
  go_enter Try.func17, Try.ntmps17
  go_wp2_with fail
  refine HR.out.mono ?_
  rintro _ w1 ⟨rfl, hg⟩
  have h1 := hg.block (heap_new w fzr _ rfl)
  obtain ⟨c0, c1, c2, c3⟩ := cells4f h1
  have f0 := frozz h1 0
  have f1 := frozz h1 1
  have f2 := frozz h1 2
  have f3 := frozz h1 3
  have H1 := Lib.hid h1
  have G := Lib.hid (((Grows.refl w).al _).trans hg)
  have hz := hg.size
  rw [World.size_alloc] at hz
  have hw : w.heap.size < w1.heap.size := by omega
  have hne : w.heap.size ≠ w1.heap.size := Nat.ne_of_lt hw
  clear hg h1 hz
  go_wp2
  exact bodyPost_ret (v := rbadv 4) (by simp [results, Try.results17, go_sem, c0, c1, c2, c3, hw, hne]) rfl ⟨rfl, (((((G.out).st (Nat.le_refl _) _).st (Nat.le_refl _) _).st (Nat.le_refl _) _).st (Nat.le_refl _) _).al _⟩
end Go.Proofs.Ytdiciboaehdckaa
