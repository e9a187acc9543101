/-
  Layer 20: the chapter's examples; the same tiles; points moved.
-/
import Derived.Test.YtfhohgemfojjmaaW12
namespace Go.Proofs.Ytfhohgemfojjmaa
open Go.RowKit Go.Tab Go.WideShapes

theorem shown_len {z buf : Int} {b : BoxI} {n : Nat} (hn : (shownL z buf b).length = n) (w : World) : Calls Try.prog 23 #[.int .i64 z, .int .i64 buf, bx b] w fun e W' => ∃ a c, e = .returned (.slice a n c) ∧ Grows w W' :=
  (wshown_any z buf b w).mono fun e W' ⟨v, he, hown, hg⟩ => by
    have hl : (shownL z buf b).length ≤ 256 := by
      unfold shownL
      split
      · exact Nat.le_trans (List.length_filter_le _ _) (tilesL_le z)
      · simp
    obtain ⟨a, c, hv, _⟩ := (own_tls hown rfl (by omega)).shape
    exact ⟨a, c, by rw [he, hv, hn], hg⟩

set_option maxHeartbeats 2000000 in
theorem kn_any (w : World) : Calls Try.prog 19 #[] w (Ret (.bool true) w) := by
  have H1 : Hid (∀ w, Calls Try.prog 7 #[tl 1 1 0, .int .i64 100] w (Ret (.tuple #[bx ⟨3996, -100, 8292, 4196⟩, .bool true]) w)) := Lib.hid fun w => window_any 1 1 0 100 w
  have H2 : Hid (∀ w, Calls Try.prog 20 #[.int .i64 1, pt 4096 0] w (Ret (.tuple #[tl 1 1 0, .bool true]) w)) := Lib.hid fun w => wof_any 1 4096 0 w
  have H3 := Lib.hid (fun w => shown_len (z := 1) (buf := 0) (b := ⟨4096, 5, 4096, 5⟩) (n := 0) (by decide +kernel) w)
  have H4 := Lib.hid (fun w => shown_len (z := 1) (buf := 1) (b := ⟨4096, 5, 4096, 5⟩) (n := 2) (by decide +kernel) w)
  go_enter Try.func19, Try.ntmps19
  go_wp2_with fail
  refine (H1.out _).mono ?_
  rintro _ w1 ⟨rfl, hg⟩
  have G1 := Lib.hid hg
  have B1 := heap_new w1 (.cells #[.int .i64 3996, .int .i64 (-100), .int .i64 8292, .int .i64 4196] 27) _ rfl
  have HB1 := Lib.hid B1
  clear hg B1
  go_wp2_with fail
  refine (H2.out _).mono ?_
  rintro _ w2 ⟨rfl, hg⟩
  have G2 := Lib.hid hg
  have HB2 := Lib.hid (heap_new w2 (.cells #[.int .i64 1, .int .i64 1, .int .i64 0] 23) _ rfl)
  have HB3 := Lib.hid (heap_new (w2.alloc (.cells #[.int .i64 1, .int .i64 1, .int .i64 0] 23)) (.cells #[.int .i64 4096, .int .i64 5] 25) (w2.heap.size + 1) (by simp only [World.size_alloc]))
  have G3 := Lib.hid (((G2.out.al (.cells #[.int .i64 1, .int .i64 1, .int .i64 0] 23)).al (.cells #[.int .i64 4096, .int .i64 5] 25)))
  have GW := Lib.hid ((G1.out.al (.cells #[.int .i64 3996, .int .i64 (-100), .int .i64 8292, .int .i64 4196] 27)).trans G3.out)
  obtain ⟨c0, c1, c2, c3⟩ := cells4 (G3.out.block HB1.out)
  have hlt := (Array.getElem?_eq_some_iff.1 (G2.out.block HB1.out)).1
  clear hg
  go_wp2_with fail
  refine (H3.out _).mono ?_
  rintro _ w3 ⟨a3, c3', rfl, hg⟩
  have G4 := Lib.hid hg
  obtain ⟨p0, p1, _, _⟩ := cells2 (hg.block HB3.out)
  clear hg c0 c1 c2 c3
  go_wp2_with fail
  refine (H4.out _).mono ?_
  rintro _ w4 ⟨a4, c4', rfl, hg⟩
  have G5 := Lib.hid (GW.out.trans (G4.out.trans hg))
  clear hg p0 p1
  go_wp2
  go_ret
  exact ⟨rfl, G5.out⟩

set_option maxHeartbeats 2000000 in
/-- The same tiles: they are the same. -/
theorem tsame_true (u v : Value) (l : List Tl) (w : World) (hu : TlsAt w u l) (hv : TlsAt w v l) :
    Calls Try.prog 15 #[u, v] w (Ret (.bool true) w) := by
  have hlen := hu.1
  obtain ⟨a, c, rfl, hnc, _⟩ := hu.shape
  obtain ⟨a2, c2, rfl, hnc2, _⟩ := hv.shape
  have HU := Lib.hid hu
  have HV := Lib.hid hv
  obtain ⟨n, hln⟩ : ∃ n, n = l.length := ⟨_, rfl⟩
  rw [← hln] at hlen hnc hnc2 HU HV ⊢
  have HN := Lib.hid hln
  clear hu hv hln
  go_enter Try.func15, Try.ntmps15
  go_wp2
  go_loopw [5] (fun i wr => ∃ k : Nat, i = .int .i64 (k : Int) ∧ k ≤ n ∧ Grows w wr) (fun i _ => n + 1 - (intOf i).toNat)
  case atStart => exact ⟨0, rfl, Nat.zero_le _, Grows.refl _⟩
  case round =>
    obtain ⟨k, rfl, hk, hg⟩ := hrel
    have G := Lib.hid hg
    clear hg
    by_cases hkn : k < n
    · obtain ⟨ba, oa, rfl, hba, -, -, -⟩ := HU.out.at_ (i := k) (by rw [← HN.out]; exact hkn)
      obtain ⟨bb, ob, rfl, hbb, -, -, -⟩ := HV.out.at_ (i := k) (by rw [← HN.out]; exact hkn)
      obtain ⟨c1, c2', c3⟩ := (HU.out.grows G.out).at_cell (i := k) (by rw [← HN.out]; exact hkn)
      obtain ⟨c4, c5, c6⟩ := (HV.out.grows G.out).at_cell (i := k) (by rw [← HN.out]; exact hkn)
      generalize l.getD k (0, 0, 0) = p at c1 c2' c3 c4 c5 c6
      obtain ⟨pz, px, py⟩ := p
      simp only at c1 c2' c3 c4 c5 c6
      go_wp2_with fail
      go_quiet (fail)
      rename_i nq
      have gd : Grows wr (wr.drewN nq) := Grows.drewN _ _
      generalize wr.drewN nq = wC at gd ⊢
      have G3 := Lib.hid (G.out.trans gd)
      clear gd c1 c2' c3 c4 c5 c6
      go_wp2
      exact ⟨⟨k + 1, by simp, by omega, G3.out⟩, by simp only [intOf]; omega⟩
    · go_wp2
      go_ret
      exact ⟨rfl, G.out⟩
end Go.Proofs.Ytfhohgemfojjmaa
