/-
  Layer 20: the law on how few tiles show a point.
-/
import Derived.Test.YtfhohgemfojjmaaW18
namespace Go.Proofs.Ytfhohgemfojjmaa
open Go.RowKit Go.Tab Go.WideShapes

theorem par_tile {z x y : Int} (h : tileB z x y = true) (hz : z ≠ 0) : tileB (z - 1) (x / 2) (y / 2) = true := by
  have hl : levelB z = true := by
    cases h' : levelB z
    · rw [tileB_no h'] at h; cases h
    · rfl
  have e : (wideN z : Int) = 2 * (wideN (z - 1) : Int) := by
    rcases wide_cases z with rfl | rfl | rfl | rfl | rfl | ⟨h', _⟩
    · exact absurd rfl hz
    iterate 4 rfl
    rw [h'] at hl; cases hl
  simp only [tileB, Bool.and_eq_true, decide_eq_true_eq] at h ⊢
  omega
theorem near_of {z buf px py tx ty : Int} {t : Tl} (h : t ∈ shownL z buf ⟨px, py, px, py⟩) (h1 : 4096 * tx ≤ px) (h2 : px ≤ 4096 * tx + 4096) (h3 : 4096 * ty ≤ py) (h4 : py ≤ 4096 * ty + 4096) :
    t.1 = z ∧ (0 ≤ t.2.1 ∧ t.2.1 < 16 ∧ 0 ≤ t.2.2 ∧ t.2.2 < 16) ∧ ¬ 1 < max (t.2.1 - tx) (tx - t.2.1) ∧ ¬ 1 < max (t.2.2 - ty) (ty - t.2.2) := by
  obtain ⟨e, ht, b0, b1, g1, g2, g3, g4⟩ := shown_mem h
  exact ⟨e, tileB_bd ht, by omega, by omega⟩

set_option maxRecDepth 100000 in
set_option maxHeartbeats 8000000 in
theorem few_law (z buf px py z2 x2 y2 : Int) (w : World) : Calls Try.prog 6 #[.int .i64 z, .int .i64 buf, pt px py, tl z2 x2 y2] w (Ret (.bool true) w) := by
  have HO := Lib.hid (wof_any z px py)
  have h4 := shown_four z buf px py
  have h1 := shown_one z px py
  have HSP : Hid (∀ w, Calls Try.prog 23 #[.int .i64 z, .int .i64 buf, bx ⟨px, py, px, py⟩] w fun e w' => ∃ v, e = .returned v ∧ TlsAt w' v (shownL z buf ⟨px, py, px, py⟩) ∧ Grows w w') := Lib.hid fun w => (wshown_any z buf _ w).mono fun e w' ⟨v, he, ho, hg⟩ => ⟨v, he, own_tls ho rfl (by omega), hg⟩
  have HS0 := Lib.hid (fun w => shown_len (z := z) (buf := 0) (b := ⟨px, py, px, py⟩) rfl w)
  have HPA := Lib.hid (parent_any z2 x2 y2)
  have HNE : Hid (hasB z px py = true → ∀ t ∈ shownL z buf ⟨px, py, px, py⟩, t.1 = z ∧ (0 ≤ t.2.1 ∧ t.2.1 < 16 ∧ 0 ≤ t.2.2 ∧ t.2.2 < 16) ∧ (0 ≤ (ofT z px py).2.1 ∧ (ofT z px py).2.1 < 16 ∧ 0 ≤ (ofT z px py).2.2 ∧ (ofT z px py).2.2 < 16) ∧ ¬ 1 < max (t.2.1 - (ofT z px py).2.1) ((ofT z px py).2.1 - t.2.1) ∧ ¬ 1 < max (t.2.2 - (ofT z px py).2.2) ((ofT z px py).2.2 - t.2.2)) := Lib.hid fun hb t ht => by
    obtain ⟨tx, ty, e, hl, hm, g1, g2, g3, g4⟩ := of_facts hb
    rw [e]
    obtain ⟨a, b, c, d⟩ := near_of ht g1 g2 g3 g4
    exact ⟨a, b, tileB_bd (tilesL_mem hl).2, c, d⟩
  have HCASE : Hid ((parB z2 x2 y2 = false) ∨ (parB z2 x2 y2 = true ∧ (0 ≤ x2 ∧ x2 < 16 ∧ 0 ≤ y2 ∧ y2 < 16) ∧ (∀ w, Calls Try.prog 9 #[tl (parT z2 x2 y2).1 (parT z2 x2 y2).2.1 (parT z2 x2 y2).2.2] w (Ret (.tuple #[bx ⟨4096 * (x2 / 2), 4096 * (y2 / 2), 4096 * (x2 / 2) + 4096, 4096 * (y2 / 2) + 4096⟩, .bool true]) w)) ∧
      (∀ w, Calls Try.prog 9 #[tl z2 x2 y2] w (Ret (.tuple #[bx ⟨4096 * x2, 4096 * y2, 4096 * x2 + 4096, 4096 * y2 + 4096⟩, .bool true]) w)))) := Lib.hid (by
    cases hp : parB z2 x2 y2 with
    | false => exact .inl rfl
    | true =>
      right
      have hp' := hp
      simp only [parB, Bool.and_eq_true, decide_eq_true_eq] at hp'
      obtain ⟨ht, hz⟩ := hp'
      have ht2 := par_tile ht hz
      have e : parT z2 x2 y2 = (z2 - 1, x2 / 2, y2 / 2) := by unfold parT; rw [if_pos hp]
      rw [e]
      have w1 : winB (z2 - 1) (x2 / 2) (y2 / 2) 0 = true := by unfold winB; rw [ht2]; rfl
      have w2 : winB z2 x2 y2 0 = true := by unfold winB; rw [ht]; rfl
      refine ⟨rfl, tileB_bd ht, fun w => ?_, fun w => ?_⟩
      · have := place_any (z2 - 1) (x2 / 2) (y2 / 2) w
        rw [w1] at this
        unfold winBox at this
        rw [if_pos w1] at this
        simpa using this
      · have := place_any z2 x2 y2 w
        rw [w2] at this
        unfold winBox at this
        rw [if_pos w2] at this
        simpa using this)
  generalize shownL z 0 ⟨px, py, px, py⟩ = M0 at HS0 h1
  generalize shownL z buf ⟨px, py, px, py⟩ = M at HSP HNE h4
  generalize parB z2 x2 y2 = pb at HPA HCASE
  generalize parT z2 x2 y2 = pT at HPA HCASE
  obtain ⟨pz, ppx, ppy⟩ := pT
  generalize ofT z px py = T at HO HNE
  generalize hasB z px py = ok at HO HNE
  obtain ⟨tz, tx, ty⟩ := T
  simp only at HO HNE HPA HCASE
  obtain ⟨n0, hn0⟩ : ∃ n0, n0 = M0.length := ⟨_, rfl⟩
  rw [← hn0] at HS0 h1
  clear hn0
  have HA : Hid (∀ w', Grows ((w.alloc (.cells #[.int .i64 px, .int .i64 py] 25)).alloc (.cells #[.int .i64 z2, .int .i64 x2, .int .i64 y2] 23) |>.alloc (.cells #[.int .i64 px, .int .i64 py, .int .i64 px, .int .i64 py] 27)) w' →
      (w'.cell? ⟨w.heap.size, 0, none⟩ = some (.int .i64 px) ∧ w'.cell? ⟨w.heap.size, 1, none⟩ = some (.int .i64 py)) ∧
      (w'.cell? ⟨w.heap.size + 1, 0, none⟩ = some (.int .i64 z2) ∧ w'.cell? ⟨w.heap.size + 1, 1, none⟩ = some (.int .i64 x2) ∧ w'.cell? ⟨w.heap.size + 1, 2, none⟩ = some (.int .i64 y2)) ∧
      (w'.cell? ⟨w.heap.size + 1 + 1, 0, none⟩ = some (.int .i64 px) ∧ w'.cell? ⟨w.heap.size + 1 + 1, 1, none⟩ = some (.int .i64 py) ∧ w'.cell? ⟨w.heap.size + 1 + 1, 2, none⟩ = some (.int .i64 px) ∧ w'.cell? ⟨w.heap.size + 1 + 1, 3, none⟩ = some (.int .i64 py)) ∧ Grows w w') :=
    Lib.hid fun w' hg => by
      obtain ⟨g1, g2, _, _⟩ := cells2 (hg.block ((Grows.alloc _ _).block ((Grows.alloc _ _).block (heap_new w (.cells #[.int .i64 px, .int .i64 py] 25) _ rfl))))
      exact ⟨⟨g1, g2⟩, cells3 (hg.block ((Grows.alloc _ _).block (heap_new _ _ _ (by simp only [World.size_alloc])))), cells4 (hg.block (heap_new _ _ _ (by simp only [World.size_alloc]))), ((((Grows.refl w).al _).al _).al _).trans hg⟩
  go_enter Try.func6, Try.ntmps6
  go_wp2_with fail
  refine (HO.out _).mono ?_
  rintro _ wa ⟨rfl, hg⟩
  have G1 := Lib.hid (hg.al (.cells #[.int .i64 tz, .int .i64 tx, .int .i64 ty] 23))
  have B10 := Lib.hid (heap_new wa (.cells #[.int .i64 tz, .int .i64 tx, .int .i64 ty] 23) _ rfl)
  obtain ⟨-, -, ⟨b0, b1, b2, b3⟩, -⟩ := HA.out _ G1.out
  clear hg
  go_wp2_with fail
  refine (HSP.out _).mono ?_
  rintro _ wb ⟨v12, rfl, hv12, hg⟩
  have K2 := Lib.hid hg
  have H12 := Lib.hid hv12
  obtain ⟨a12, c12, rfl, hc12, _⟩ := hv12.shape
  obtain ⟨n, hn⟩ : ∃ n, n = M.length := ⟨_, rfl⟩
  rw [← hn] at hc12 H12 h4 ⊢
  have HN := Lib.hid hn
  clear hg hv12 b0 b1 b2 b3 hn
  obtain ⟨-, -, ⟨b0, b1, b2, b3⟩, -⟩ := HA.out _ (G1.out.trans K2.out)
  go_wp2_with fail
  refine (HS0.out _).mono ?_
  rintro _ wc ⟨a42, c42, rfl, hg⟩
  have K3 := Lib.hid (K2.out.trans hg)
  have K23 := Lib.hid hg
  clear hg b0 b1 b2 b3
  go_wp2
  go_loopw [13] (fun i wr => ∃ k : Nat, i = .int .i64 (k : Int) ∧ k ≤ n ∧ Grows wc wr) (fun i _ => n - (intOf i).toNat)
  case atStart => exact ⟨0, rfl, Nat.zero_le _, Grows.refl _⟩
  case round =>
    obtain ⟨k, rfl, hk, hg⟩ := hrel
    have G := Lib.hid hg
    clear hg
    by_cases hgo : k < n ∧ ok = true
    · obtain ⟨hkn, rfl⟩ := hgo
      obtain ⟨bA, oA, rfl, hbA, -, -, -⟩ := (H12.out.grows (K23.out.trans G.out)).at_ (i := k) (by rw [← HN.out]; exact hkn)
      have CK := Lib.hid (fun w' (hg : Grows wr w') => And.intro ((H12.out.grows (K23.out.trans (G.out.trans hg))).at_cell (i := k) (by rw [← HN.out]; exact hkn)) (cells3 ((K3.out.trans (G.out.trans hg)).block B10.out)))
      have HNk := HNE.out rfl (M.getD k (0, 0, 0)) (mem_getD.2 ⟨k, by rw [← HN.out]; exact hkn, rfl⟩)
      generalize M.getD k (0, 0, 0) = t at CK HNk
      obtain ⟨az, ax, ay⟩ := t
      simp only at HNk
      obtain ⟨ez, ⟨x0, x1, y0, y1⟩, ⟨u0, u1, v0, v1⟩, d1, d2⟩ := HNk
      have EZ : Hid ((az == z) = true ∧ az = z) := Lib.hid ⟨by simpa using ez, ez⟩
      have F9 : Hid (∀ w', Grows wr w' → (w'.cell? ⟨bA, oA + k * 3, none⟩ = some (.int .i64 az) ∧ w'.cell? ⟨bA, oA + k * 3 + 1, none⟩ = some (.int .i64 ax) ∧ w'.cell? ⟨bA, oA + k * 3 + 2, none⟩ = some (.int .i64 ay)) ∧ (w'.cell? ⟨wa.heap.size, 0, none⟩ = some (.int .i64 tz) ∧ w'.cell? ⟨wa.heap.size, 1, none⟩ = some (.int .i64 tx) ∧ w'.cell? ⟨wa.heap.size, 2, none⟩ = some (.int .i64 ty))) := Lib.hid CK.out
      have I1 : Hid ((0 : Int) ≤ (k : Int)) := Lib.hid (by omega)
      have I2 : Hid ((k : Int) < (n : Int)) := Lib.hid (by omega)
      have M1 : Hid (IntKind.i64.wrap (ax - tx) = ax - tx) := Lib.hid (IntWalk.i64_in _ (by omega))
      have M2 : Hid (IntKind.i64.wrap (tx - ax) = tx - ax) := Lib.hid (IntWalk.i64_in _ (by omega))
      have M3 : Hid (IntKind.i64.wrap (ay - ty) = ay - ty) := Lib.hid (IntWalk.i64_in _ (by omega))
      have M4 : Hid (IntKind.i64.wrap (ty - ay) = ty - ay) := Lib.hid (IntWalk.i64_in _ (by omega))
      have MX : Hid (∀ a b : Int, (if a < b then b else a) = max a b) := Lib.hid (fun a b => by rw [Int.max_def]; split <;> split <;> omega)
      have D1 : Hid (max (ax - tx) (tx - ax) ≤ 1) := Lib.hid (by omega)
      have D2 : Hid (max (ay - ty) (ty - ay) ≤ 1) := Lib.hid (by omega)
      clear CK ez x0 x1 y0 y1 u0 u1 v0 v1 d1 d2
      go_wp2_with fail
      refine wp_region_tab 47 (by kernel_rfl) (by kernel_rfl) ?_
      intro w0 hw0 hg1 hg1'
      simp only [List.append_eq, List.cons_append, List.nil_append, List.take_succ_cons, List.take_zero, List.drop_succ_cons, List.drop_zero]
      refine tab_val (.slice (some ⟨bA, oA, none⟩) n c12) (fun r w1 hr hg hA => by obtain ⟨q0, -⟩ := hA; have q0e : r (.tmp 12) = .slice (some ⟨bA, oA, none⟩) n c12 := q0; exact ⟨rfl, by simp [go_sem, q0e]⟩) ?_
      refine tab_val (.int .i64 (k : Int)) (fun r w1 hr hg hA => by obtain ⟨q0, -⟩ := hA; have q0e : r (.tmp 13) = .int .i64 (k : Int) := q0; exact ⟨rfl, by simp [go_sem, q0e]⟩) ?_
      refine tab_val (.pointer (some ⟨bA, oA + k * 3, none⟩)) (fun r w1 hr hg hA => by obtain ⟨⟨_, q0⟩, ⟨_, q1⟩, -⟩ := hA; have q0e : r (.tmp 55) = .slice (some ⟨bA, oA, none⟩) n c12 := q0; have q1e : r (.tmp 56) = .int .i64 (k : Int) := q1; exact ⟨rfl, by simp [go_sem, q0e, q1e, I1.out, I2.out]⟩) ?_
      refine tab_val (.pointer (some ⟨bA, oA + k * 3, none⟩)) (fun r w1 hr hg hA => by obtain ⟨⟨_, q0⟩, -⟩ := hA; have q0e : r (.tmp 57) = .pointer (some ⟨bA, oA + k * 3, none⟩) := q0; exact ⟨rfl, by simp [go_sem, q0e]⟩) ?_
      refine tab_val (.int .i64 (az)) (fun r w1 hr hg hA => by obtain ⟨⟨_, q0⟩, -⟩ := hA; have q0e : r (.tmp 58) = .pointer (some ⟨bA, oA + k * 3, none⟩) := q0; have hc := F9.out w1 (hg1.trans hg); exact ⟨rfl, by simp [go_sem, q0e, hc]⟩) ?_
      refine tab_val (.int .i64 z) (fun r w1 hr hg hA => by obtain ⟨q0, -⟩ := hA; have q0e : r (.tmp 0) = .int .i64 z := q0; exact ⟨rfl, by simp [go_sem, q0e]⟩) ?_
      refine tab_val (.bool false) (fun r w1 hr hg hA => by obtain ⟨⟨_, q0⟩, ⟨_, q1⟩, -⟩ := hA; have q0e : r (.tmp 59) = .int .i64 (az) := q0; have q1e : r (.tmp 60) = .int .i64 z := q1; exact ⟨rfl, by simp [go_sem, q0e, q1e, EZ.out]⟩) ?_
      refine tab_val (.bool false) (fun r w1 hr hg hA => by obtain ⟨⟨_, q0⟩, -⟩ := hA; have q0e : r (.tmp 61) = .bool false := q0; exact ⟨rfl, by simp [go_sem, q0e]⟩) ?_
      refine tab_val (.slice (some ⟨bA, oA, none⟩) n c12) (fun r w1 hr hg hA => by obtain ⟨q0, ⟨_, q1⟩, -⟩ := hA; have q0e : r (.tmp 12) = .slice (some ⟨bA, oA, none⟩) n c12 := q0; have q1e : r (.tmp 62) = .bool false := q1; exact ⟨⟨_, q1e, rfl⟩, by simp [go_sem, q0e]⟩) ?_
      refine tab_val (.int .i64 (k : Int)) (fun r w1 hr hg hA => by obtain ⟨q0, ⟨_, q1⟩, -⟩ := hA; have q0e : r (.tmp 13) = .int .i64 (k : Int) := q0; have q1e : r (.tmp 62) = .bool false := q1; exact ⟨⟨_, q1e, rfl⟩, by simp [go_sem, q0e]⟩) ?_
      refine tab_val (.pointer (some ⟨bA, oA + k * 3, none⟩)) (fun r w1 hr hg hA => by obtain ⟨⟨_, q0⟩, ⟨_, q1⟩, ⟨_, q2⟩, -⟩ := hA; have q0e : r (.tmp 63) = .slice (some ⟨bA, oA, none⟩) n c12 := q0; have q1e : r (.tmp 64) = .int .i64 (k : Int) := q1; have q2e : r (.tmp 62) = .bool false := q2; exact ⟨⟨_, q2e, rfl⟩, by simp [go_sem, q0e, q1e, I1.out, I2.out]⟩) ?_
      refine tab_val (.pointer (some ⟨bA, oA + k * 3 + 1, none⟩)) (fun r w1 hr hg hA => by obtain ⟨⟨_, q0⟩, ⟨_, q1⟩, -⟩ := hA; have q0e : r (.tmp 65) = .pointer (some ⟨bA, oA + k * 3, none⟩) := q0; have q1e : r (.tmp 62) = .bool false := q1; exact ⟨⟨_, q1e, rfl⟩, by simp [go_sem, q0e]⟩) ?_
      refine tab_val (.int .i64 (ax)) (fun r w1 hr hg hA => by obtain ⟨⟨_, q0⟩, ⟨_, q1⟩, -⟩ := hA; have q0e : r (.tmp 66) = .pointer (some ⟨bA, oA + k * 3 + 1, none⟩) := q0; have q1e : r (.tmp 62) = .bool false := q1; have hc := F9.out w1 (hg1.trans hg); exact ⟨⟨_, q1e, rfl⟩, by simp [go_sem, q0e, hc]⟩) ?_
      refine tab_val (.pointer (some ⟨wa.heap.size, 1, none⟩)) (fun r w1 hr hg hA => by obtain ⟨q0, ⟨_, q1⟩, -⟩ := hA; have q0e : r (.tmp 10) = .pointer (some ⟨wa.heap.size, 0, none⟩) := q0; have q1e : r (.tmp 62) = .bool false := q1; exact ⟨⟨_, q1e, rfl⟩, by simp [go_sem, q0e]⟩) ?_
      refine tab_val (.int .i64 (tx)) (fun r w1 hr hg hA => by obtain ⟨⟨_, q0⟩, ⟨_, q1⟩, -⟩ := hA; have q0e : r (.tmp 68) = .pointer (some ⟨wa.heap.size, 1, none⟩) := q0; have q1e : r (.tmp 62) = .bool false := q1; have hc := F9.out w1 (hg1.trans hg); exact ⟨⟨_, q1e, rfl⟩, by simp [go_sem, q0e, hc]⟩) ?_
      refine tab_val (.int .i64 (ax - tx)) (fun r w1 hr hg hA => by obtain ⟨⟨_, q0⟩, ⟨_, q1⟩, ⟨_, q2⟩, -⟩ := hA; have q0e : r (.tmp 67) = .int .i64 (ax) := q0; have q1e : r (.tmp 69) = .int .i64 (tx) := q1; have q2e : r (.tmp 62) = .bool false := q2; exact ⟨⟨_, q2e, rfl⟩, by simp [go_sem, q0e, q1e, M1.out]⟩) ?_
      refine tab_val (.pointer (some ⟨wa.heap.size, 1, none⟩)) (fun r w1 hr hg hA => by obtain ⟨q0, ⟨_, q1⟩, -⟩ := hA; have q0e : r (.tmp 10) = .pointer (some ⟨wa.heap.size, 0, none⟩) := q0; have q1e : r (.tmp 62) = .bool false := q1; exact ⟨⟨_, q1e, rfl⟩, by simp [go_sem, q0e]⟩) ?_
      refine tab_val (.int .i64 (tx)) (fun r w1 hr hg hA => by obtain ⟨⟨_, q0⟩, ⟨_, q1⟩, -⟩ := hA; have q0e : r (.tmp 71) = .pointer (some ⟨wa.heap.size, 1, none⟩) := q0; have q1e : r (.tmp 62) = .bool false := q1; have hc := F9.out w1 (hg1.trans hg); exact ⟨⟨_, q1e, rfl⟩, by simp [go_sem, q0e, hc]⟩) ?_
      refine tab_val (.slice (some ⟨bA, oA, none⟩) n c12) (fun r w1 hr hg hA => by obtain ⟨q0, ⟨_, q1⟩, -⟩ := hA; have q0e : r (.tmp 12) = .slice (some ⟨bA, oA, none⟩) n c12 := q0; have q1e : r (.tmp 62) = .bool false := q1; exact ⟨⟨_, q1e, rfl⟩, by simp [go_sem, q0e]⟩) ?_
      refine tab_val (.int .i64 (k : Int)) (fun r w1 hr hg hA => by obtain ⟨q0, ⟨_, q1⟩, -⟩ := hA; have q0e : r (.tmp 13) = .int .i64 (k : Int) := q0; have q1e : r (.tmp 62) = .bool false := q1; exact ⟨⟨_, q1e, rfl⟩, by simp [go_sem, q0e]⟩) ?_
      refine tab_val (.pointer (some ⟨bA, oA + k * 3, none⟩)) (fun r w1 hr hg hA => by obtain ⟨⟨_, q0⟩, ⟨_, q1⟩, ⟨_, q2⟩, -⟩ := hA; have q0e : r (.tmp 73) = .slice (some ⟨bA, oA, none⟩) n c12 := q0; have q1e : r (.tmp 74) = .int .i64 (k : Int) := q1; have q2e : r (.tmp 62) = .bool false := q2; exact ⟨⟨_, q2e, rfl⟩, by simp [go_sem, q0e, q1e, I1.out, I2.out]⟩) ?_
      refine tab_val (.pointer (some ⟨bA, oA + k * 3 + 1, none⟩)) (fun r w1 hr hg hA => by obtain ⟨⟨_, q0⟩, ⟨_, q1⟩, -⟩ := hA; have q0e : r (.tmp 75) = .pointer (some ⟨bA, oA + k * 3, none⟩) := q0; have q1e : r (.tmp 62) = .bool false := q1; exact ⟨⟨_, q1e, rfl⟩, by simp [go_sem, q0e]⟩) ?_
      refine tab_val (.int .i64 (ax)) (fun r w1 hr hg hA => by obtain ⟨⟨_, q0⟩, ⟨_, q1⟩, -⟩ := hA; have q0e : r (.tmp 76) = .pointer (some ⟨bA, oA + k * 3 + 1, none⟩) := q0; have q1e : r (.tmp 62) = .bool false := q1; have hc := F9.out w1 (hg1.trans hg); exact ⟨⟨_, q1e, rfl⟩, by simp [go_sem, q0e, hc]⟩) ?_
      refine tab_val (.int .i64 (tx - ax)) (fun r w1 hr hg hA => by obtain ⟨⟨_, q0⟩, ⟨_, q1⟩, ⟨_, q2⟩, -⟩ := hA; have q0e : r (.tmp 72) = .int .i64 (tx) := q0; have q1e : r (.tmp 77) = .int .i64 (ax) := q1; have q2e : r (.tmp 62) = .bool false := q2; exact ⟨⟨_, q2e, rfl⟩, by simp [go_sem, q0e, q1e, M2.out]⟩) ?_
      refine tab_val (.int .i64 (max (ax - tx) (tx - ax))) (fun r w1 hr hg hA => by obtain ⟨⟨_, q0⟩, ⟨_, q1⟩, ⟨_, q2⟩, -⟩ := hA; have q0e : r (.tmp 70) = .int .i64 (ax - tx) := q0; have q1e : r (.tmp 78) = .int .i64 (tx - ax) := q1; have q2e : r (.tmp 62) = .bool false := q2; exact ⟨⟨_, q2e, rfl⟩, by simp [go_sem, q0e, q1e, MX.out]⟩) ?_
      refine tab_val (.bool false) (fun r w1 hr hg hA => by obtain ⟨⟨_, q0⟩, ⟨_, q1⟩, -⟩ := hA; have q0e : r (.tmp 79) = .int .i64 (max (ax - tx) (tx - ax)) := q0; have q1e : r (.tmp 62) = .bool false := q1; exact ⟨⟨_, q1e, rfl⟩, by simp [go_sem, hr.const, q0e, D1.out]⟩) ?_
      refine tab_val (.bool false) (fun r w1 hr hg hA => by obtain ⟨⟨_, q0⟩, ⟨_, q1⟩, -⟩ := hA; have q0e : r (.tmp 62) = .bool false := q0; have q1e : r (.tmp 80) = .bool false := q1; exact ⟨rfl, by simp [go_sem, q0e, q1e]⟩) ?_
      refine tab_val (.bool false) (fun r w1 hr hg hA => by obtain ⟨⟨_, q0⟩, -⟩ := hA; have q0e : r (.tmp 81) = .bool false := q0; exact ⟨rfl, by simp [go_sem, q0e]⟩) ?_
      refine tab_val (.slice (some ⟨bA, oA, none⟩) n c12) (fun r w1 hr hg hA => by obtain ⟨q0, ⟨_, q1⟩, -⟩ := hA; have q0e : r (.tmp 12) = .slice (some ⟨bA, oA, none⟩) n c12 := q0; have q1e : r (.tmp 82) = .bool false := q1; exact ⟨⟨_, q1e, rfl⟩, by simp [go_sem, q0e]⟩) ?_
      refine tab_val (.int .i64 (k : Int)) (fun r w1 hr hg hA => by obtain ⟨q0, ⟨_, q1⟩, -⟩ := hA; have q0e : r (.tmp 13) = .int .i64 (k : Int) := q0; have q1e : r (.tmp 82) = .bool false := q1; exact ⟨⟨_, q1e, rfl⟩, by simp [go_sem, q0e]⟩) ?_
      refine tab_val (.pointer (some ⟨bA, oA + k * 3, none⟩)) (fun r w1 hr hg hA => by obtain ⟨⟨_, q0⟩, ⟨_, q1⟩, ⟨_, q2⟩, -⟩ := hA; have q0e : r (.tmp 83) = .slice (some ⟨bA, oA, none⟩) n c12 := q0; have q1e : r (.tmp 84) = .int .i64 (k : Int) := q1; have q2e : r (.tmp 82) = .bool false := q2; exact ⟨⟨_, q2e, rfl⟩, by simp [go_sem, q0e, q1e, I1.out, I2.out]⟩) ?_
      refine tab_val (.pointer (some ⟨bA, oA + k * 3 + 2, none⟩)) (fun r w1 hr hg hA => by obtain ⟨⟨_, q0⟩, ⟨_, q1⟩, -⟩ := hA; have q0e : r (.tmp 85) = .pointer (some ⟨bA, oA + k * 3, none⟩) := q0; have q1e : r (.tmp 82) = .bool false := q1; exact ⟨⟨_, q1e, rfl⟩, by simp [go_sem, q0e]⟩) ?_
      refine tab_val (.int .i64 (ay)) (fun r w1 hr hg hA => by obtain ⟨⟨_, q0⟩, ⟨_, q1⟩, -⟩ := hA; have q0e : r (.tmp 86) = .pointer (some ⟨bA, oA + k * 3 + 2, none⟩) := q0; have q1e : r (.tmp 82) = .bool false := q1; have hc := F9.out w1 (hg1.trans hg); exact ⟨⟨_, q1e, rfl⟩, by simp [go_sem, q0e, hc]⟩) ?_
      refine tab_val (.pointer (some ⟨wa.heap.size, 2, none⟩)) (fun r w1 hr hg hA => by obtain ⟨q0, ⟨_, q1⟩, -⟩ := hA; have q0e : r (.tmp 10) = .pointer (some ⟨wa.heap.size, 0, none⟩) := q0; have q1e : r (.tmp 82) = .bool false := q1; exact ⟨⟨_, q1e, rfl⟩, by simp [go_sem, q0e]⟩) ?_
      refine tab_val (.int .i64 (ty)) (fun r w1 hr hg hA => by obtain ⟨⟨_, q0⟩, ⟨_, q1⟩, -⟩ := hA; have q0e : r (.tmp 88) = .pointer (some ⟨wa.heap.size, 2, none⟩) := q0; have q1e : r (.tmp 82) = .bool false := q1; have hc := F9.out w1 (hg1.trans hg); exact ⟨⟨_, q1e, rfl⟩, by simp [go_sem, q0e, hc]⟩) ?_
      refine tab_val (.int .i64 (ay - ty)) (fun r w1 hr hg hA => by obtain ⟨⟨_, q0⟩, ⟨_, q1⟩, ⟨_, q2⟩, -⟩ := hA; have q0e : r (.tmp 87) = .int .i64 (ay) := q0; have q1e : r (.tmp 89) = .int .i64 (ty) := q1; have q2e : r (.tmp 82) = .bool false := q2; exact ⟨⟨_, q2e, rfl⟩, by simp [go_sem, q0e, q1e, M3.out]⟩) ?_
      refine tab_val (.pointer (some ⟨wa.heap.size, 2, none⟩)) (fun r w1 hr hg hA => by obtain ⟨q0, ⟨_, q1⟩, -⟩ := hA; have q0e : r (.tmp 10) = .pointer (some ⟨wa.heap.size, 0, none⟩) := q0; have q1e : r (.tmp 82) = .bool false := q1; exact ⟨⟨_, q1e, rfl⟩, by simp [go_sem, q0e]⟩) ?_
      refine tab_val (.int .i64 (ty)) (fun r w1 hr hg hA => by obtain ⟨⟨_, q0⟩, ⟨_, q1⟩, -⟩ := hA; have q0e : r (.tmp 91) = .pointer (some ⟨wa.heap.size, 2, none⟩) := q0; have q1e : r (.tmp 82) = .bool false := q1; have hc := F9.out w1 (hg1.trans hg); exact ⟨⟨_, q1e, rfl⟩, by simp [go_sem, q0e, hc]⟩) ?_
      refine tab_val (.slice (some ⟨bA, oA, none⟩) n c12) (fun r w1 hr hg hA => by obtain ⟨q0, ⟨_, q1⟩, -⟩ := hA; have q0e : r (.tmp 12) = .slice (some ⟨bA, oA, none⟩) n c12 := q0; have q1e : r (.tmp 82) = .bool false := q1; exact ⟨⟨_, q1e, rfl⟩, by simp [go_sem, q0e]⟩) ?_
      refine tab_val (.int .i64 (k : Int)) (fun r w1 hr hg hA => by obtain ⟨q0, ⟨_, q1⟩, -⟩ := hA; have q0e : r (.tmp 13) = .int .i64 (k : Int) := q0; have q1e : r (.tmp 82) = .bool false := q1; exact ⟨⟨_, q1e, rfl⟩, by simp [go_sem, q0e]⟩) ?_
      refine tab_val (.pointer (some ⟨bA, oA + k * 3, none⟩)) (fun r w1 hr hg hA => by obtain ⟨⟨_, q0⟩, ⟨_, q1⟩, ⟨_, q2⟩, -⟩ := hA; have q0e : r (.tmp 93) = .slice (some ⟨bA, oA, none⟩) n c12 := q0; have q1e : r (.tmp 94) = .int .i64 (k : Int) := q1; have q2e : r (.tmp 82) = .bool false := q2; exact ⟨⟨_, q2e, rfl⟩, by simp [go_sem, q0e, q1e, I1.out, I2.out]⟩) ?_
      refine tab_val (.pointer (some ⟨bA, oA + k * 3 + 2, none⟩)) (fun r w1 hr hg hA => by obtain ⟨⟨_, q0⟩, ⟨_, q1⟩, -⟩ := hA; have q0e : r (.tmp 95) = .pointer (some ⟨bA, oA + k * 3, none⟩) := q0; have q1e : r (.tmp 82) = .bool false := q1; exact ⟨⟨_, q1e, rfl⟩, by simp [go_sem, q0e]⟩) ?_
      refine tab_val (.int .i64 (ay)) (fun r w1 hr hg hA => by obtain ⟨⟨_, q0⟩, ⟨_, q1⟩, -⟩ := hA; have q0e : r (.tmp 96) = .pointer (some ⟨bA, oA + k * 3 + 2, none⟩) := q0; have q1e : r (.tmp 82) = .bool false := q1; have hc := F9.out w1 (hg1.trans hg); exact ⟨⟨_, q1e, rfl⟩, by simp [go_sem, q0e, hc]⟩) ?_
      refine tab_val (.int .i64 (ty - ay)) (fun r w1 hr hg hA => by obtain ⟨⟨_, q0⟩, ⟨_, q1⟩, ⟨_, q2⟩, -⟩ := hA; have q0e : r (.tmp 92) = .int .i64 (ty) := q0; have q1e : r (.tmp 97) = .int .i64 (ay) := q1; have q2e : r (.tmp 82) = .bool false := q2; exact ⟨⟨_, q2e, rfl⟩, by simp [go_sem, q0e, q1e, M4.out]⟩) ?_
      refine tab_val (.int .i64 (max (ay - ty) (ty - ay))) (fun r w1 hr hg hA => by obtain ⟨⟨_, q0⟩, ⟨_, q1⟩, ⟨_, q2⟩, -⟩ := hA; have q0e : r (.tmp 90) = .int .i64 (ay - ty) := q0; have q1e : r (.tmp 98) = .int .i64 (ty - ay) := q1; have q2e : r (.tmp 82) = .bool false := q2; exact ⟨⟨_, q2e, rfl⟩, by simp [go_sem, q0e, q1e, MX.out]⟩) ?_
      refine tab_val (.bool false) (fun r w1 hr hg hA => by obtain ⟨⟨_, q0⟩, ⟨_, q1⟩, -⟩ := hA; have q0e : r (.tmp 99) = .int .i64 (max (ay - ty) (ty - ay)) := q0; have q1e : r (.tmp 82) = .bool false := q1; exact ⟨⟨_, q1e, rfl⟩, by simp [go_sem, hr.const, q0e, D2.out]⟩) ?_
      refine tab_val (.bool false) (fun r w1 hr hg hA => by obtain ⟨⟨_, q0⟩, ⟨_, q1⟩, -⟩ := hA; have q0e : r (.tmp 82) = .bool false := q0; have q1e : r (.tmp 100) = .bool false := q1; exact ⟨rfl, by simp [go_sem, q0e, q1e]⟩) ?_
      refine tab_end ?_
      simp only [List.reverse_cons, List.reverse_nil, List.nil_append, List.cons_append, Out, BlockP, forall_eq, forall_const, Act.put, List.setIfInBounds_toArray, List.set_cons_succ, List.set_cons_zero]
      intro wA2 hgA
      have G3 := Lib.hid (G.out.trans (hg1.trans hgA))
      clear hg1 hg1' hgA hw0
      go_wp2
      exact ⟨⟨k + 1, by simp, by omega, G3.out⟩, by simp only [intOf]; omega⟩
    · have HGO : Hid ((decide (k < n) && ok) = false) := Lib.hid (by rw [← Bool.not_eq_true]; simpa using hgo)
      obtain ⟨-, ⟨t0, t1, t2⟩, -, -⟩ := HA.out _ (G1.out.trans (K3.out.trans G.out))
      have HEX : Hid (k < n → ok = false) := Lib.hid (fun h => by cases ok; rfl; exact absurd ⟨h, rfl⟩ hgo)
      clear hgo
      have SPL : (k < n ∧ ok = false) ∨ ¬ k < n := by
        by_cases h : k < n
        · exact .inl ⟨h, HEX.out h⟩
        · exact .inr h
      rcases SPL with ⟨hkn, rfl⟩ | hkn
      all_goals
        clear HGO HEX
        go_wp2_with fail
        refine (HPA.out _).mono ?_
        rintro _ wd ⟨rfl, hg⟩
        have K4 := Lib.hid ((K3.out.trans (G.out.trans hg)).al (.cells #[.int .i64 pz, .int .i64 ppx, .int .i64 ppy] 23))
        clear hg t0 t1 t2
        rcases HCASE.out with rfl | ⟨rfl, ⟨x0, x1, y0, y1⟩, hp1, hp2⟩
        · go_wp2_with fail
          refine (kn_any _).mono ?_
          rintro _ we ⟨rfl, hg⟩
          have K5 := Lib.hid (G1.out.trans (K4.out.trans hg))
          clear hg
          go_wp2
          go_ret
          exact ⟨rfl, (HA.out _ K5.out).2.2.2⟩
        · have HP1 := Lib.hid hp1
          have HP2 := Lib.hid hp2
          have q1 : 2 * (4096 * (x2 / 2)) ≤ 4096 * x2 := by omega
          have q2 : 4096 * x2 + 4096 ≤ 2 * (4096 * (x2 / 2) + 4096) := by omega
          have q3 : 2 * (4096 * (y2 / 2)) ≤ 4096 * y2 := by omega
          have q4 : 4096 * y2 + 4096 ≤ 2 * (4096 * (y2 / 2) + 4096) := by omega
          have r1 : 0 ≤ x2 / 2 := by omega
          have r2 : x2 / 2 < 16 := by omega
          have r3 : 0 ≤ y2 / 2 := by omega
          have r4 : y2 / 2 < 16 := by omega
          clear hp1 hp2
          go_wp2_with fail
          refine (HP1.out _).mono ?_
          rintro _ we ⟨rfl, hg⟩
          have K5 := Lib.hid (K4.out.trans (hg.al (.cells #[.int .i64 (4096 * (x2 / 2)), .int .i64 (4096 * (y2 / 2)), .int .i64 (4096 * (x2 / 2) + 4096), .int .i64 (4096 * (y2 / 2) + 4096)] 27)))
          have B16 := Lib.hid (heap_new we (.cells #[.int .i64 (4096 * (x2 / 2)), .int .i64 (4096 * (y2 / 2)), .int .i64 (4096 * (x2 / 2) + 4096), .int .i64 (4096 * (y2 / 2) + 4096)] 27) _ rfl)
          clear hg
          obtain ⟨-, ⟨t0, t1, t2⟩, -, -⟩ := HA.out _ (G1.out.trans K5.out)
          go_wp2_with fail
          refine (HP2.out _).mono ?_
          rintro _ wf ⟨rfl, hg⟩
          have K6 := Lib.hid (hg.al (.cells #[.int .i64 (4096 * x2), .int .i64 (4096 * y2), .int .i64 (4096 * x2 + 4096), .int .i64 (4096 * y2 + 4096)] 27))
          have B18 := Lib.hid (heap_new wf (.cells #[.int .i64 (4096 * x2), .int .i64 (4096 * y2), .int .i64 (4096 * x2 + 4096), .int .i64 (4096 * y2 + 4096)] 27) _ rfl)
          clear hg t0 t1 t2
          go_wp2_with fail
          refine (kn_any _).mono ?_
          rintro _ wg ⟨rfl, hg⟩
          obtain ⟨a0, a1, a2, a3⟩ := cells4 (hg.block (K6.out.block B16.out))
          obtain ⟨b0, b1, b2, b3⟩ := cells4 (hg.block B18.out)
          have K7 := Lib.hid (G1.out.trans (K5.out.trans (K6.out.trans hg)))
          clear hg
          go_wp2
          go_ret
          exact ⟨rfl, (HA.out _ K7.out).2.2.2⟩
end Go.Proofs.Ytfhohgemfojjmaa
