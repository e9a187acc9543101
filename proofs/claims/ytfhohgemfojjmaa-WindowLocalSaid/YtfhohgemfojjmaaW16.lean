/-
  Layer 20: the law on points by the numbers of a tile.
-/
import Derived.Test.YtfhohgemfojjmaaW15
import Derived.Test.YtfhohgemfojjmaaCu
namespace Go.Proofs.Ytfhohgemfojjmaa
open Go.RowKit Go.Tab Go.WideShapes

theorem i64w (n : Int) : IntKind.i64.wrap n = wrap64 n := by simp [IntKind.wrap, wrap64, IntKind.bits, IntKind.signed]; try omega
theorem cancel64 {p d : Int} (h0 : -9223372036854775808 ≤ p) (h1 : p ≤ 9223372036854775807) : wrap64 (wrap64 (p + -d) + d) = p := by unfold wrap64; omega
theorem cancel64' {p d : Int} (h0 : -9223372036854775808 ≤ p) (h1 : p ≤ 9223372036854775807) : wrap64 (wrap64 (p + d) + -d) = p := by unfold wrap64; omega
theorem back_map {dx dy : Int} {l : List (Int × Int)} (h : ∀ p ∈ l, (-9223372036854775808 ≤ p.1 ∧ p.1 ≤ 9223372036854775807) ∧ (-9223372036854775808 ≤ p.2 ∧ p.2 ≤ 9223372036854775807)) :
    (l.map (movP (-dx) (-dy))).map (movP dx dy) = l ∧ (l.map (movP dx dy)).map (movP (-dx) (-dy)) = l := by
  constructor
  · rw [List.map_map]
    refine (List.map_congr_left fun p hp => ?_).trans (List.map_id l)
    obtain ⟨⟨a, b⟩, c, d⟩ := h p hp
    simp only [Function.comp, movP, id, cancel64 a b, cancel64 c d]
  · rw [List.map_map]
    refine (List.map_congr_left fun p hp => ?_).trans (List.map_id l)
    obtain ⟨⟨a, b⟩, c, d⟩ := h p hp
    simp only [Function.comp, movP, id, cancel64' a b, cancel64' c d]
theorem getD_map (f : Int × Int → Int × Int) (l : List (Int × Int)) (k : Nat) (h : k < l.length) : (l.map f).getD k (0, 0) = f (l.getD k (0, 0)) := by
  simp [List.getD_eq_getElem?_getD, List.getElem?_eq_getElem h]

set_option maxRecDepth 100000 in
set_option maxHeartbeats 8000000 in
theorem local_law (z x y : Int) (a : Option Addr) (n0 c : Nat) (L : List (Int × Int)) (w : World) (hnc0 : n0 ≤ c) (hac : a = none → c = 0) (hu : PtsAt w (.slice a (min n0 40) c) L)
    (hw : ∀ p ∈ L, (-9223372036854775808 ≤ p.1 ∧ p.1 ≤ 9223372036854775807) ∧ (-9223372036854775808 ≤ p.2 ∧ p.2 ≤ 9223372036854775807)) :
    Calls Try.prog 5 #[tl z x y, .slice a n0 c] w (Ret (.bool true) w) := by
  have hcut := cut_slice a n0 c (w.alloc (.cells #[.int .i64 z, .int .i64 x, .int .i64 y] 23)) hnc0 hac
  have hpt := hu.grows ((Grows.refl w).al (.cells #[.int .i64 z, .int .i64 x, .int .i64 y] 23))
  obtain ⟨n, hn⟩ : ∃ n, n = min n0 40 := ⟨_, rfl⟩
  have hL : n ≤ 40 := by rw [hn]; exact Nat.min_le_right _ _
  rw [← hn] at hcut hpt
  obtain ⟨a', c', hv, hnc, _⟩ := hpt.shape
  have hln : n = L.length := by injection hv
  have hcc : c = c' := by injection hv
  rw [← hln] at hnc
  rw [← hcc] at hnc
  clear hac hnc0 hn hv hcc hu
  have hlen : L.length ≤ 1000 := by omega
  have HU := Lib.hid hpt
  have HLO := Lib.hid (fun w' (hg : Grows (w.alloc (.cells #[.int .i64 z, .int .i64 x, .int .i64 y] 23)) w') => wlocal_any z x y _ L w' (hpt.grows hg) hlen)
  have HWO := Lib.hid (fun w' (hg : Grows (w.alloc (.cells #[.int .i64 z, .int .i64 x, .int .i64 y] 23)) w') => wworld_any z x y _ L w' (hpt.grows hg) hlen)
  have HN := Lib.hid hln
  have HCUT := Lib.hid hcut
  have HR := Lib.hid (wright_any z x y)
  have HPL := Lib.hid (place_any z x y)
  have HWf := Lib.hid hw
  clear hpt hln hcut hw hlen
  have BX : Hid (∀ w', Grows (w.alloc (.cells #[.int .i64 z, .int .i64 x, .int .i64 y] 23)) w' → (w'.cell? ⟨w.heap.size, 0, none⟩ = some (.int .i64 z) ∧ w'.cell? ⟨w.heap.size, 1, none⟩ = some (.int .i64 x) ∧ w'.cell? ⟨w.heap.size, 2, none⟩ = some (.int .i64 y)) ∧ Grows w w') := Lib.hid fun w' hg =>
    ⟨cells3 (hg.block (heap_new w _ _ rfl)), ((Grows.refl w).al _).trans hg⟩
  go_enter Try.func5, Try.ntmps5
  go_wp2_with fail
  refine HCUT.out.mono ?_
  rintro _ wa ⟨rfl, hg⟩
  have G1 := Lib.hid hg
  clear hg
  go_wp2_with fail
  refine wp_region_tab 6 (by kernel_rfl) (by kernel_rfl) ?_
  intro w0 hw0 hg1' hg1''
  have hg1 := G1.out.trans hg1'
  simp only [List.take_succ_cons, List.take_zero, List.drop_succ_cons, List.drop_zero]
  refine tab_val (tl z x y) (fun r w1 hr hg hA => by obtain ⟨q0, -⟩ := hA; have q0e : r (.tmp 2) = .pointer (some ⟨w.heap.size, 0, none⟩) := q0; have hc := BX.out w1 (hg1.trans hg); exact ⟨rfl, by simp [go_sem, q0e, hc]⟩) ?_
  refine tab_val (.slice a n c) (fun r w1 hr hg hA => by obtain ⟨q0, -⟩ := hA; have q0e : r (.tmp 1) = .slice a n c := q0; exact ⟨rfl, by simp [go_sem, q0e]⟩) ?_
  refine tab_callQ (fun v w => PtsAt w v (localL z x y L)) (fun v w w' h hg => h.grows hg) (fun r w1 hr hg hA => by obtain ⟨⟨_, q0⟩, ⟨_, q1⟩, -⟩ := hA; have q0e : r (.tmp 13) = tl z x y := q0; have q1e : r (.tmp 14) = .slice a n c := q1; exact ⟨rfl, #[tl z x y, .slice a n c], by simp [go_sem, hr.func, q0e, q1e], HLO.out w1 (hg1.trans hg)⟩) ?_
  refine tab_val (tl z x y) (fun r w1 hr hg hA => by obtain ⟨q0, -⟩ := hA; have q0e : r (.tmp 2) = .pointer (some ⟨w.heap.size, 0, none⟩) := q0; have hc := BX.out w1 (hg1.trans hg); exact ⟨rfl, by simp [go_sem, q0e, hc]⟩) ?_
  refine tab_val (.slice a n c) (fun r w1 hr hg hA => by obtain ⟨q0, -⟩ := hA; have q0e : r (.tmp 1) = .slice a n c := q0; exact ⟨rfl, by simp [go_sem, q0e]⟩) ?_
  refine tab_callQ (fun v w => PtsAt w v (worldL z x y L)) (fun v w w' h hg => h.grows hg) (fun r w1 hr hg hA => by obtain ⟨⟨_, q0⟩, ⟨_, q1⟩, -⟩ := hA; have q0e : r (.tmp 16) = tl z x y := q0; have q1e : r (.tmp 17) = .slice a n c := q1; exact ⟨rfl, #[tl z x y, .slice a n c], by simp [go_sem, hr.func, q0e, q1e], HWO.out w1 (hg1.trans hg)⟩) ?_
  refine tab_end ?_
  simp only [List.reverse_cons, List.reverse_nil, List.nil_append, List.cons_append, Out, BlockP, forall_eq, forall_const, Act.put, List.setIfInBounds_toArray, List.set_cons_succ, List.set_cons_zero]
  intro wA hgA vA hA vB hB
  have G2 := Lib.hid (hg1.trans hgA)
  obtain ⟨aA, cA, rfl, hcA, _⟩ := hA.shape
  obtain ⟨aB, cB, rfl, hcB, _⟩ := hB.shape
  have HA := Lib.hid hA
  have HB := Lib.hid hB
  obtain ⟨⟨t0, t1, t2⟩, -⟩ := BX.out _ G2.out
  clear hg1 hg1' hg1'' hw0 hgA hA hB
  cases ht : tileB z x y with
  | false =>
    have e1 : (localL z x y L).length = 0 := by unfold localL; rw [ht]; rfl
    have e2 : (worldL z x y L).length = 0 := by unfold worldL; rw [ht]; rfl
    rw [ht] at HR
    rw [e1] at hcA ⊢
    rw [e2] at hcB ⊢
    clear ht e1 e2 HA HB
    go_wp2_with fail
    refine (HR.out _).mono ?_
    rintro _ wb ⟨rfl, hg⟩
    have G3 := Lib.hid (G2.out.trans hg)
    clear hg t0 t1 t2
    go_wp2_with fail
    refine (kn_any _).mono ?_
    rintro _ wc ⟨rfl, hg⟩
    have G4 := Lib.hid ((BX.out _ G3.out).2.trans hg)
    clear hg
    go_wp2
    go_ret
    exact ⟨rfl, G4.out⟩
  | true =>
    have eA : localL z x y L = L.map (movP (-(4096 * x)) (-(4096 * y))) := by unfold localL; rw [ht]; rfl
    have eB : worldL z x y L = L.map (movP (4096 * x) (4096 * y)) := by unfold worldL; rw [ht]; rfl
    obtain ⟨x0, x1, y0, y1⟩ := tileB_bd ht
    have HBK := Lib.hid (back_map (dx := 4096 * x) (dy := 4096 * y) HWf.out)
    have wb0 : winB z x y 0 = true := by simp [winB, ht]
    have ePL : winBox z x y 0 = ⟨4096 * x, 4096 * y, 4096 * x + 4096, 4096 * y + 4096⟩ := by
      unfold winBox
      rw [if_pos wb0]
      simp
    rw [wb0, ePL] at HPL
    have hlA : (localL z x y L).length = n := by rw [eA, List.length_map, HN.out]
    have hlB : (worldL z x y L).length = n := by rw [eB, List.length_map, HN.out]
    have HLO1 : Hid (∀ w' u, PtsAt w' u [(4096 * x, 4096 * y)] → Calls Try.prog 27 #[tl z x y, u] w' (fun e w'' => ∃ v, e = .returned v ∧ PtsAt w'' v [(0, 0)] ∧ Grows w' w'')) := Lib.hid fun w' u hu => by
      have := wlocal_any z x y u [(4096 * x, 4096 * y)] w' hu (by simp)
      have e : localL z x y [(4096 * x, 4096 * y)] = [(0, 0)] := by
        unfold localL
        rw [ht]
        simp only [if_true, List.map_cons, List.map_nil, movP]
        rw [show (4096 * x + -(4096 * x)) = 0 by omega, show (4096 * y + -(4096 * y)) = 0 by omega, show wrap64 0 = 0 from (by unfold wrap64; omega)]
      rw [e] at this
      exact this
    have HWA : Hid (∀ w' u, PtsAt w' u (localL z x y L) → Calls Try.prog 28 #[tl z x y, u] w' (fun e w'' => ∃ v, e = .returned v ∧ PtsAt w'' v L ∧ Grows w' w'')) := Lib.hid fun w' u hu => by
      have := wworld_any z x y u _ w' hu (by omega)
      have e : worldL z x y (localL z x y L) = L := by
        rw [eA]
        unfold worldL
        rw [ht]
        exact HBK.out.1
      rw [e] at this
      exact this
    have HLB : Hid (∀ w' u, PtsAt w' u (worldL z x y L) → Calls Try.prog 27 #[tl z x y, u] w' (fun e w'' => ∃ v, e = .returned v ∧ PtsAt w'' v L ∧ Grows w' w'')) := Lib.hid fun w' u hu => by
      have := wlocal_any z x y u _ w' hu (by omega)
      have e : localL z x y (worldL z x y L) = L := by
        rw [eB]
        unfold localL
        rw [ht]
        exact HBK.out.2
      rw [e] at this
      exact this
    have CA := Lib.hid (fun w' (hg : Grows wA w') k (hk : k < n) => by
      have h := (HA.out.grows hg).at_ (i := k) (by rw [hlA]; exact hk)
      rw [eA, getD_map _ _ _ (by rw [← HN.out]; exact hk)] at h
      exact h)
    have CB := Lib.hid (fun w' (hg : Grows wA w') k (hk : k < n) => by
      have h := (HB.out.grows hg).at_ (i := k) (by rw [hlB]; exact hk)
      rw [eB, getD_map _ _ _ (by rw [← HN.out]; exact hk)] at h
      exact h)
    rw [ht] at HR
    rw [hlA] at hcA HA ⊢
    rw [hlB] at hcB HB ⊢
    clear ht eA eB HBK wb0 ePL hlA hlB HWf HLO HWO HCUT
    go_wp2_with fail
    refine (HR.out _).mono ?_
    rintro _ wb ⟨rfl, hg⟩
    have K3 := Lib.hid hg
    clear hg t0 t1 t2
    obtain ⟨⟨t0, t1, t2⟩, -⟩ := BX.out _ (G2.out.trans K3.out)
    go_wp2_with fail
    refine (HPL.out _).mono ?_
    rintro _ wc ⟨rfl, hg⟩
    have K4 := Lib.hid ((K3.out.trans hg).al (.cells #[.int .i64 (4096 * x), .int .i64 (4096 * y), .int .i64 (4096 * x + 4096), .int .i64 (4096 * y + 4096)] 27))
    clear hg t0 t1 t2
    obtain ⟨⟨t0, t1, t2⟩, -⟩ := BX.out _ (G2.out.trans K4.out)
    go_wp2_with fail
    refine (HLO1.out _ _ (pts_block (l := [(4096 * x, 4096 * y)]) (heap_new _ _ _ (by simp only [World.size_alloc])) rfl (by simp))).mono ?_
    rintro _ wd ⟨v9, rfl, hv9, hg⟩
    have K5 := Lib.hid (K4.out.trans (((Grows.refl _).al _).trans hg))
    obtain ⟨a9, c9, rfl, hc9, _⟩ := hv9.shape
    have H9 := Lib.hid hv9
    clear hg t0 t1 t2 hv9
    go_wp2
    go_loopw [10] (fun i wr => ∃ k : Nat, i = .int .i64 (k : Int) ∧ k ≤ n ∧ Grows wd wr) (fun i _ => n - (intOf i).toNat)
    case atStart => exact ⟨0, rfl, Nat.zero_le _, Grows.refl _⟩
    case round =>
      obtain ⟨k, rfl, hk, hg⟩ := hrel
      have G := Lib.hid hg
      clear hg
      by_cases hkn : k < n
      · obtain ⟨bl, ol, rfl, hbl, -, -⟩ := HU.out.at_ (i := k) (by rw [← HN.out]; exact hkn)
        obtain ⟨bA, oA, rfl, hbA, -, -⟩ := CA.out wr (K5.out.trans G.out) k hkn
        obtain ⟨bB, oB, rfl, hbB, -, -⟩ := CB.out wr (K5.out.trans G.out) k hkn
        have F10 := Lib.hid (fun w' (hg : Grows wr w') => And.intro (BX.out _ (G2.out.trans (K5.out.trans (G.out.trans hg)))).1 (And.intro ((HU.out.grows (G2.out.trans (K5.out.trans (G.out.trans hg)))).at_cell (i := k) (by rw [← HN.out]; exact hkn)) (And.intro (CA.out w' (K5.out.trans (G.out.trans hg)) k hkn) (CB.out w' (K5.out.trans (G.out.trans hg)) k hkn))))
        generalize L.getD k (0, 0) = p at F10
        obtain ⟨px, py⟩ := p
        have I1 : Hid ((0 : Int) ≤ (k : Int)) := Lib.hid (by omega)
        have I2 : Hid ((k : Int) < (n : Int)) := Lib.hid (by omega)
        have M1 : Hid (IntKind.i64.wrap (4096 * x) = 4096 * x) := Lib.hid (IntWalk.i64_in _ (by omega))
        have M2 : Hid (IntKind.i64.wrap (4096 * y) = 4096 * y) := Lib.hid (IntWalk.i64_in _ (by omega))
        have F10 : Hid (∀ w', Grows wr w' → (w'.cell? ⟨w.heap.size, 0, none⟩ = some (.int .i64 z) ∧ w'.cell? ⟨w.heap.size, 1, none⟩ = some (.int .i64 x) ∧ w'.cell? ⟨w.heap.size, 2, none⟩ = some (.int .i64 y)) ∧
            (w'.cell? ⟨bl, ol + k * 2, none⟩ = some (.int .i64 px) ∧ w'.cell? ⟨bl, ol + k * 2 + 1, none⟩ = some (.int .i64 py)) ∧
            (w'.cell? ⟨bA, oA + k * 2, none⟩ = some (.int .i64 (wrap64 (px - 4096 * x))) ∧ w'.cell? ⟨bA, oA + k * 2 + 1, none⟩ = some (.int .i64 (wrap64 (py - 4096 * y)))) ∧
            (w'.cell? ⟨bB, oB + k * 2, none⟩ = some (.int .i64 (wrap64 (px + 4096 * x))) ∧ w'.cell? ⟨bB, oB + k * 2 + 1, none⟩ = some (.int .i64 (wrap64 (py + 4096 * y))))) := Lib.hid fun w' hg => by
          obtain ⟨h1, h2, ⟨b1, o1, e1, -, h3, h4⟩, ⟨b2, o2, e2, -, h5, h6⟩⟩ := F10.out w' hg
          cases e1
          cases e2
          exact ⟨h1, h2, ⟨by rw [h3]; simp only [movP, ← Int.sub_eq_add_neg], by rw [h4]; simp only [movP, ← Int.sub_eq_add_neg]⟩, h5, h6⟩
        go_wp2_with fail
        refine wp_region_tab 66 (by kernel_rfl) (by kernel_rfl) ?_
        intro w0 hw0 hg1 hg1'
        simp only [List.append_eq, List.cons_append, List.nil_append, List.take_succ_cons, List.take_zero, List.drop_succ_cons, List.drop_zero]
        refine tab_val (.slice (some ⟨bA, oA, none⟩) n cA) (fun r w1 hr hg hA => by obtain ⟨q0, -⟩ := hA; have q0e : r (.tmp 5) = .slice (some ⟨bA, oA, none⟩) n cA := q0; exact ⟨rfl, by simp [go_sem, q0e]⟩) ?_
        refine tab_val (.int .i64 (k : Int)) (fun r w1 hr hg hA => by obtain ⟨q0, -⟩ := hA; have q0e : r (.tmp 10) = .int .i64 (k : Int) := q0; exact ⟨rfl, by simp [go_sem, q0e]⟩) ?_
        refine tab_val (.pointer (some ⟨bA, oA + k * 2, none⟩)) (fun r w1 hr hg hA => by obtain ⟨⟨_, q0⟩, ⟨_, q1⟩, -⟩ := hA; have q0e : r (.tmp 63) = .slice (some ⟨bA, oA, none⟩) n cA := q0; have q1e : r (.tmp 64) = .int .i64 (k : Int) := q1; exact ⟨rfl, by simp [go_sem, q0e, q1e, I1.out, I2.out]⟩) ?_
        refine tab_val (.pointer (some ⟨bA, oA + k * 2, none⟩)) (fun r w1 hr hg hA => by obtain ⟨⟨_, q0⟩, -⟩ := hA; have q0e : r (.tmp 65) = .pointer (some ⟨bA, oA + k * 2, none⟩) := q0; exact ⟨rfl, by simp [go_sem, q0e]⟩) ?_
        refine tab_val (.int .i64 (wrap64 (px - 4096 * x))) (fun r w1 hr hg hA => by obtain ⟨⟨_, q0⟩, -⟩ := hA; have q0e : r (.tmp 66) = .pointer (some ⟨bA, oA + k * 2, none⟩) := q0; have hc := F10.out w1 (hg1.trans hg); exact ⟨rfl, by simp [go_sem, q0e, hc]⟩) ?_
        refine tab_val (.slice (some ⟨bl, ol, none⟩) n c) (fun r w1 hr hg hA => by obtain ⟨q0, -⟩ := hA; have q0e : r (.tmp 1) = .slice (some ⟨bl, ol, none⟩) n c := q0; exact ⟨rfl, by simp [go_sem, q0e]⟩) ?_
        refine tab_val (.int .i64 (k : Int)) (fun r w1 hr hg hA => by obtain ⟨q0, -⟩ := hA; have q0e : r (.tmp 10) = .int .i64 (k : Int) := q0; exact ⟨rfl, by simp [go_sem, q0e]⟩) ?_
        refine tab_val (.pointer (some ⟨bl, ol + k * 2, none⟩)) (fun r w1 hr hg hA => by obtain ⟨⟨_, q0⟩, ⟨_, q1⟩, -⟩ := hA; have q0e : r (.tmp 68) = .slice (some ⟨bl, ol, none⟩) n c := q0; have q1e : r (.tmp 69) = .int .i64 (k : Int) := q1; exact ⟨rfl, by simp [go_sem, q0e, q1e, I1.out, I2.out]⟩) ?_
        refine tab_val (.pointer (some ⟨bl, ol + k * 2, none⟩)) (fun r w1 hr hg hA => by obtain ⟨⟨_, q0⟩, -⟩ := hA; have q0e : r (.tmp 70) = .pointer (some ⟨bl, ol + k * 2, none⟩) := q0; exact ⟨rfl, by simp [go_sem, q0e]⟩) ?_
        refine tab_val (.int .i64 (px)) (fun r w1 hr hg hA => by obtain ⟨⟨_, q0⟩, -⟩ := hA; have q0e : r (.tmp 71) = .pointer (some ⟨bl, ol + k * 2, none⟩) := q0; have hc := F10.out w1 (hg1.trans hg); exact ⟨rfl, by simp [go_sem, q0e, hc]⟩) ?_
        refine tab_val (.pointer (some ⟨w.heap.size, 1, none⟩)) (fun r w1 hr hg hA => by obtain ⟨q0, -⟩ := hA; have q0e : r (.tmp 2) = .pointer (some ⟨w.heap.size, 0, none⟩) := q0; exact ⟨rfl, by simp [go_sem, q0e]⟩) ?_
        refine tab_val (.int .i64 (x)) (fun r w1 hr hg hA => by obtain ⟨⟨_, q0⟩, -⟩ := hA; have q0e : r (.tmp 73) = .pointer (some ⟨w.heap.size, 1, none⟩) := q0; have hc := F10.out w1 (hg1.trans hg); exact ⟨rfl, by simp [go_sem, q0e, hc]⟩) ?_
        refine tab_val (.int .i64 (4096 * x)) (fun r w1 hr hg hA => by obtain ⟨⟨_, q0⟩, -⟩ := hA; have q0e : r (.tmp 74) = .int .i64 (x) := q0; exact ⟨rfl, by simp [go_sem, hr.const, q0e, M1.out]⟩) ?_
        refine tab_val (.int .i64 (wrap64 (px - 4096 * x))) (fun r w1 hr hg hA => by obtain ⟨⟨_, q0⟩, ⟨_, q1⟩, -⟩ := hA; have q0e : r (.tmp 72) = .int .i64 (px) := q0; have q1e : r (.tmp 75) = .int .i64 (4096 * x) := q1; exact ⟨rfl, by simp [go_sem, q0e, q1e, i64w]⟩) ?_
        refine tab_val (.bool false) (fun r w1 hr hg hA => by obtain ⟨⟨_, q0⟩, ⟨_, q1⟩, -⟩ := hA; have q0e : r (.tmp 67) = .int .i64 (wrap64 (px - 4096 * x)) := q0; have q1e : r (.tmp 76) = .int .i64 (wrap64 (px - 4096 * x)) := q1; exact ⟨rfl, by simp [go_sem, q0e, q1e]⟩) ?_
        refine tab_val (.bool false) (fun r w1 hr hg hA => by obtain ⟨⟨_, q0⟩, -⟩ := hA; have q0e : r (.tmp 77) = .bool false := q0; exact ⟨rfl, by simp [go_sem, q0e]⟩) ?_
        refine tab_val (.slice (some ⟨bA, oA, none⟩) n cA) (fun r w1 hr hg hA => by obtain ⟨q0, ⟨_, q1⟩, -⟩ := hA; have q0e : r (.tmp 5) = .slice (some ⟨bA, oA, none⟩) n cA := q0; have q1e : r (.tmp 78) = .bool false := q1; exact ⟨⟨_, q1e, rfl⟩, by simp [go_sem, q0e]⟩) ?_
        refine tab_val (.int .i64 (k : Int)) (fun r w1 hr hg hA => by obtain ⟨q0, ⟨_, q1⟩, -⟩ := hA; have q0e : r (.tmp 10) = .int .i64 (k : Int) := q0; have q1e : r (.tmp 78) = .bool false := q1; exact ⟨⟨_, q1e, rfl⟩, by simp [go_sem, q0e]⟩) ?_
        refine tab_val (.pointer (some ⟨bA, oA + k * 2, none⟩)) (fun r w1 hr hg hA => by obtain ⟨⟨_, q0⟩, ⟨_, q1⟩, ⟨_, q2⟩, -⟩ := hA; have q0e : r (.tmp 79) = .slice (some ⟨bA, oA, none⟩) n cA := q0; have q1e : r (.tmp 80) = .int .i64 (k : Int) := q1; have q2e : r (.tmp 78) = .bool false := q2; exact ⟨⟨_, q2e, rfl⟩, by simp [go_sem, q0e, q1e, I1.out, I2.out]⟩) ?_
        refine tab_val (.pointer (some ⟨bA, oA + k * 2 + 1, none⟩)) (fun r w1 hr hg hA => by obtain ⟨⟨_, q0⟩, ⟨_, q1⟩, -⟩ := hA; have q0e : r (.tmp 81) = .pointer (some ⟨bA, oA + k * 2, none⟩) := q0; have q1e : r (.tmp 78) = .bool false := q1; exact ⟨⟨_, q1e, rfl⟩, by simp [go_sem, q0e]⟩) ?_
        refine tab_val (.int .i64 (wrap64 (py - 4096 * y))) (fun r w1 hr hg hA => by obtain ⟨⟨_, q0⟩, ⟨_, q1⟩, -⟩ := hA; have q0e : r (.tmp 82) = .pointer (some ⟨bA, oA + k * 2 + 1, none⟩) := q0; have q1e : r (.tmp 78) = .bool false := q1; have hc := F10.out w1 (hg1.trans hg); exact ⟨⟨_, q1e, rfl⟩, by simp [go_sem, q0e, hc]⟩) ?_
        refine tab_val (.slice (some ⟨bl, ol, none⟩) n c) (fun r w1 hr hg hA => by obtain ⟨q0, ⟨_, q1⟩, -⟩ := hA; have q0e : r (.tmp 1) = .slice (some ⟨bl, ol, none⟩) n c := q0; have q1e : r (.tmp 78) = .bool false := q1; exact ⟨⟨_, q1e, rfl⟩, by simp [go_sem, q0e]⟩) ?_
        refine tab_val (.int .i64 (k : Int)) (fun r w1 hr hg hA => by obtain ⟨q0, ⟨_, q1⟩, -⟩ := hA; have q0e : r (.tmp 10) = .int .i64 (k : Int) := q0; have q1e : r (.tmp 78) = .bool false := q1; exact ⟨⟨_, q1e, rfl⟩, by simp [go_sem, q0e]⟩) ?_
        refine tab_val (.pointer (some ⟨bl, ol + k * 2, none⟩)) (fun r w1 hr hg hA => by obtain ⟨⟨_, q0⟩, ⟨_, q1⟩, ⟨_, q2⟩, -⟩ := hA; have q0e : r (.tmp 84) = .slice (some ⟨bl, ol, none⟩) n c := q0; have q1e : r (.tmp 85) = .int .i64 (k : Int) := q1; have q2e : r (.tmp 78) = .bool false := q2; exact ⟨⟨_, q2e, rfl⟩, by simp [go_sem, q0e, q1e, I1.out, I2.out]⟩) ?_
        refine tab_val (.pointer (some ⟨bl, ol + k * 2 + 1, none⟩)) (fun r w1 hr hg hA => by obtain ⟨⟨_, q0⟩, ⟨_, q1⟩, -⟩ := hA; have q0e : r (.tmp 86) = .pointer (some ⟨bl, ol + k * 2, none⟩) := q0; have q1e : r (.tmp 78) = .bool false := q1; exact ⟨⟨_, q1e, rfl⟩, by simp [go_sem, q0e]⟩) ?_
        refine tab_val (.int .i64 (py)) (fun r w1 hr hg hA => by obtain ⟨⟨_, q0⟩, ⟨_, q1⟩, -⟩ := hA; have q0e : r (.tmp 87) = .pointer (some ⟨bl, ol + k * 2 + 1, none⟩) := q0; have q1e : r (.tmp 78) = .bool false := q1; have hc := F10.out w1 (hg1.trans hg); exact ⟨⟨_, q1e, rfl⟩, by simp [go_sem, q0e, hc]⟩) ?_
        refine tab_val (.pointer (some ⟨w.heap.size, 2, none⟩)) (fun r w1 hr hg hA => by obtain ⟨q0, ⟨_, q1⟩, -⟩ := hA; have q0e : r (.tmp 2) = .pointer (some ⟨w.heap.size, 0, none⟩) := q0; have q1e : r (.tmp 78) = .bool false := q1; exact ⟨⟨_, q1e, rfl⟩, by simp [go_sem, q0e]⟩) ?_
        refine tab_val (.int .i64 (y)) (fun r w1 hr hg hA => by obtain ⟨⟨_, q0⟩, ⟨_, q1⟩, -⟩ := hA; have q0e : r (.tmp 89) = .pointer (some ⟨w.heap.size, 2, none⟩) := q0; have q1e : r (.tmp 78) = .bool false := q1; have hc := F10.out w1 (hg1.trans hg); exact ⟨⟨_, q1e, rfl⟩, by simp [go_sem, q0e, hc]⟩) ?_
        refine tab_val (.int .i64 (4096 * y)) (fun r w1 hr hg hA => by obtain ⟨⟨_, q0⟩, ⟨_, q1⟩, -⟩ := hA; have q0e : r (.tmp 90) = .int .i64 (y) := q0; have q1e : r (.tmp 78) = .bool false := q1; exact ⟨⟨_, q1e, rfl⟩, by simp [go_sem, hr.const, q0e, M2.out]⟩) ?_
        refine tab_val (.int .i64 (wrap64 (py - 4096 * y))) (fun r w1 hr hg hA => by obtain ⟨⟨_, q0⟩, ⟨_, q1⟩, ⟨_, q2⟩, -⟩ := hA; have q0e : r (.tmp 88) = .int .i64 (py) := q0; have q1e : r (.tmp 91) = .int .i64 (4096 * y) := q1; have q2e : r (.tmp 78) = .bool false := q2; exact ⟨⟨_, q2e, rfl⟩, by simp [go_sem, q0e, q1e, i64w]⟩) ?_
        refine tab_val (.bool false) (fun r w1 hr hg hA => by obtain ⟨⟨_, q0⟩, ⟨_, q1⟩, ⟨_, q2⟩, -⟩ := hA; have q0e : r (.tmp 83) = .int .i64 (wrap64 (py - 4096 * y)) := q0; have q1e : r (.tmp 92) = .int .i64 (wrap64 (py - 4096 * y)) := q1; have q2e : r (.tmp 78) = .bool false := q2; exact ⟨⟨_, q2e, rfl⟩, by simp [go_sem, q0e, q1e]⟩) ?_
        refine tab_val (.bool false) (fun r w1 hr hg hA => by obtain ⟨⟨_, q0⟩, ⟨_, q1⟩, -⟩ := hA; have q0e : r (.tmp 78) = .bool false := q0; have q1e : r (.tmp 93) = .bool false := q1; exact ⟨rfl, by simp [go_sem, q0e, q1e]⟩) ?_
        refine tab_val (.bool false) (fun r w1 hr hg hA => by obtain ⟨⟨_, q0⟩, -⟩ := hA; have q0e : r (.tmp 94) = .bool false := q0; exact ⟨rfl, by simp [go_sem, q0e]⟩) ?_
        refine tab_val (.slice (some ⟨bB, oB, none⟩) n cB) (fun r w1 hr hg hA => by obtain ⟨q0, ⟨_, q1⟩, -⟩ := hA; have q0e : r (.tmp 6) = .slice (some ⟨bB, oB, none⟩) n cB := q0; have q1e : r (.tmp 95) = .bool false := q1; exact ⟨⟨_, q1e, rfl⟩, by simp [go_sem, q0e]⟩) ?_
        refine tab_val (.int .i64 (k : Int)) (fun r w1 hr hg hA => by obtain ⟨q0, ⟨_, q1⟩, -⟩ := hA; have q0e : r (.tmp 10) = .int .i64 (k : Int) := q0; have q1e : r (.tmp 95) = .bool false := q1; exact ⟨⟨_, q1e, rfl⟩, by simp [go_sem, q0e]⟩) ?_
        refine tab_val (.pointer (some ⟨bB, oB + k * 2, none⟩)) (fun r w1 hr hg hA => by obtain ⟨⟨_, q0⟩, ⟨_, q1⟩, ⟨_, q2⟩, -⟩ := hA; have q0e : r (.tmp 96) = .slice (some ⟨bB, oB, none⟩) n cB := q0; have q1e : r (.tmp 97) = .int .i64 (k : Int) := q1; have q2e : r (.tmp 95) = .bool false := q2; exact ⟨⟨_, q2e, rfl⟩, by simp [go_sem, q0e, q1e, I1.out, I2.out]⟩) ?_
        refine tab_val (.pointer (some ⟨bB, oB + k * 2, none⟩)) (fun r w1 hr hg hA => by obtain ⟨⟨_, q0⟩, ⟨_, q1⟩, -⟩ := hA; have q0e : r (.tmp 98) = .pointer (some ⟨bB, oB + k * 2, none⟩) := q0; have q1e : r (.tmp 95) = .bool false := q1; exact ⟨⟨_, q1e, rfl⟩, by simp [go_sem, q0e]⟩) ?_
        refine tab_val (.int .i64 (wrap64 (px + 4096 * x))) (fun r w1 hr hg hA => by obtain ⟨⟨_, q0⟩, ⟨_, q1⟩, -⟩ := hA; have q0e : r (.tmp 99) = .pointer (some ⟨bB, oB + k * 2, none⟩) := q0; have q1e : r (.tmp 95) = .bool false := q1; have hc := F10.out w1 (hg1.trans hg); exact ⟨⟨_, q1e, rfl⟩, by simp [go_sem, q0e, hc]⟩) ?_
        refine tab_val (.slice (some ⟨bl, ol, none⟩) n c) (fun r w1 hr hg hA => by obtain ⟨q0, ⟨_, q1⟩, -⟩ := hA; have q0e : r (.tmp 1) = .slice (some ⟨bl, ol, none⟩) n c := q0; have q1e : r (.tmp 95) = .bool false := q1; exact ⟨⟨_, q1e, rfl⟩, by simp [go_sem, q0e]⟩) ?_
        refine tab_val (.int .i64 (k : Int)) (fun r w1 hr hg hA => by obtain ⟨q0, ⟨_, q1⟩, -⟩ := hA; have q0e : r (.tmp 10) = .int .i64 (k : Int) := q0; have q1e : r (.tmp 95) = .bool false := q1; exact ⟨⟨_, q1e, rfl⟩, by simp [go_sem, q0e]⟩) ?_
        refine tab_val (.pointer (some ⟨bl, ol + k * 2, none⟩)) (fun r w1 hr hg hA => by obtain ⟨⟨_, q0⟩, ⟨_, q1⟩, ⟨_, q2⟩, -⟩ := hA; have q0e : r (.tmp 101) = .slice (some ⟨bl, ol, none⟩) n c := q0; have q1e : r (.tmp 102) = .int .i64 (k : Int) := q1; have q2e : r (.tmp 95) = .bool false := q2; exact ⟨⟨_, q2e, rfl⟩, by simp [go_sem, q0e, q1e, I1.out, I2.out]⟩) ?_
        refine tab_val (.pointer (some ⟨bl, ol + k * 2, none⟩)) (fun r w1 hr hg hA => by obtain ⟨⟨_, q0⟩, ⟨_, q1⟩, -⟩ := hA; have q0e : r (.tmp 103) = .pointer (some ⟨bl, ol + k * 2, none⟩) := q0; have q1e : r (.tmp 95) = .bool false := q1; exact ⟨⟨_, q1e, rfl⟩, by simp [go_sem, q0e]⟩) ?_
        refine tab_val (.int .i64 (px)) (fun r w1 hr hg hA => by obtain ⟨⟨_, q0⟩, ⟨_, q1⟩, -⟩ := hA; have q0e : r (.tmp 104) = .pointer (some ⟨bl, ol + k * 2, none⟩) := q0; have q1e : r (.tmp 95) = .bool false := q1; have hc := F10.out w1 (hg1.trans hg); exact ⟨⟨_, q1e, rfl⟩, by simp [go_sem, q0e, hc]⟩) ?_
        refine tab_val (.pointer (some ⟨w.heap.size, 1, none⟩)) (fun r w1 hr hg hA => by obtain ⟨q0, ⟨_, q1⟩, -⟩ := hA; have q0e : r (.tmp 2) = .pointer (some ⟨w.heap.size, 0, none⟩) := q0; have q1e : r (.tmp 95) = .bool false := q1; exact ⟨⟨_, q1e, rfl⟩, by simp [go_sem, q0e]⟩) ?_
        refine tab_val (.int .i64 (x)) (fun r w1 hr hg hA => by obtain ⟨⟨_, q0⟩, ⟨_, q1⟩, -⟩ := hA; have q0e : r (.tmp 106) = .pointer (some ⟨w.heap.size, 1, none⟩) := q0; have q1e : r (.tmp 95) = .bool false := q1; have hc := F10.out w1 (hg1.trans hg); exact ⟨⟨_, q1e, rfl⟩, by simp [go_sem, q0e, hc]⟩) ?_
        refine tab_val (.int .i64 (4096 * x)) (fun r w1 hr hg hA => by obtain ⟨⟨_, q0⟩, ⟨_, q1⟩, -⟩ := hA; have q0e : r (.tmp 107) = .int .i64 (x) := q0; have q1e : r (.tmp 95) = .bool false := q1; exact ⟨⟨_, q1e, rfl⟩, by simp [go_sem, hr.const, q0e, M1.out]⟩) ?_
        refine tab_val (.int .i64 (wrap64 (px + 4096 * x))) (fun r w1 hr hg hA => by obtain ⟨⟨_, q0⟩, ⟨_, q1⟩, ⟨_, q2⟩, -⟩ := hA; have q0e : r (.tmp 105) = .int .i64 (px) := q0; have q1e : r (.tmp 108) = .int .i64 (4096 * x) := q1; have q2e : r (.tmp 95) = .bool false := q2; exact ⟨⟨_, q2e, rfl⟩, by simp [go_sem, q0e, q1e, i64w]⟩) ?_
        refine tab_val (.bool false) (fun r w1 hr hg hA => by obtain ⟨⟨_, q0⟩, ⟨_, q1⟩, ⟨_, q2⟩, -⟩ := hA; have q0e : r (.tmp 100) = .int .i64 (wrap64 (px + 4096 * x)) := q0; have q1e : r (.tmp 109) = .int .i64 (wrap64 (px + 4096 * x)) := q1; have q2e : r (.tmp 95) = .bool false := q2; exact ⟨⟨_, q2e, rfl⟩, by simp [go_sem, q0e, q1e]⟩) ?_
        refine tab_val (.bool false) (fun r w1 hr hg hA => by obtain ⟨⟨_, q0⟩, ⟨_, q1⟩, -⟩ := hA; have q0e : r (.tmp 95) = .bool false := q0; have q1e : r (.tmp 110) = .bool false := q1; exact ⟨rfl, by simp [go_sem, q0e, q1e]⟩) ?_
        refine tab_val (.bool false) (fun r w1 hr hg hA => by obtain ⟨⟨_, q0⟩, -⟩ := hA; have q0e : r (.tmp 111) = .bool false := q0; exact ⟨rfl, by simp [go_sem, q0e]⟩) ?_
        refine tab_val (.slice (some ⟨bB, oB, none⟩) n cB) (fun r w1 hr hg hA => by obtain ⟨q0, ⟨_, q1⟩, -⟩ := hA; have q0e : r (.tmp 6) = .slice (some ⟨bB, oB, none⟩) n cB := q0; have q1e : r (.tmp 112) = .bool false := q1; exact ⟨⟨_, q1e, rfl⟩, by simp [go_sem, q0e]⟩) ?_
        refine tab_val (.int .i64 (k : Int)) (fun r w1 hr hg hA => by obtain ⟨q0, ⟨_, q1⟩, -⟩ := hA; have q0e : r (.tmp 10) = .int .i64 (k : Int) := q0; have q1e : r (.tmp 112) = .bool false := q1; exact ⟨⟨_, q1e, rfl⟩, by simp [go_sem, q0e]⟩) ?_
        refine tab_val (.pointer (some ⟨bB, oB + k * 2, none⟩)) (fun r w1 hr hg hA => by obtain ⟨⟨_, q0⟩, ⟨_, q1⟩, ⟨_, q2⟩, -⟩ := hA; have q0e : r (.tmp 113) = .slice (some ⟨bB, oB, none⟩) n cB := q0; have q1e : r (.tmp 114) = .int .i64 (k : Int) := q1; have q2e : r (.tmp 112) = .bool false := q2; exact ⟨⟨_, q2e, rfl⟩, by simp [go_sem, q0e, q1e, I1.out, I2.out]⟩) ?_
        refine tab_val (.pointer (some ⟨bB, oB + k * 2 + 1, none⟩)) (fun r w1 hr hg hA => by obtain ⟨⟨_, q0⟩, ⟨_, q1⟩, -⟩ := hA; have q0e : r (.tmp 115) = .pointer (some ⟨bB, oB + k * 2, none⟩) := q0; have q1e : r (.tmp 112) = .bool false := q1; exact ⟨⟨_, q1e, rfl⟩, by simp [go_sem, q0e]⟩) ?_
        refine tab_val (.int .i64 (wrap64 (py + 4096 * y))) (fun r w1 hr hg hA => by obtain ⟨⟨_, q0⟩, ⟨_, q1⟩, -⟩ := hA; have q0e : r (.tmp 116) = .pointer (some ⟨bB, oB + k * 2 + 1, none⟩) := q0; have q1e : r (.tmp 112) = .bool false := q1; have hc := F10.out w1 (hg1.trans hg); exact ⟨⟨_, q1e, rfl⟩, by simp [go_sem, q0e, hc]⟩) ?_
        refine tab_val (.slice (some ⟨bl, ol, none⟩) n c) (fun r w1 hr hg hA => by obtain ⟨q0, ⟨_, q1⟩, -⟩ := hA; have q0e : r (.tmp 1) = .slice (some ⟨bl, ol, none⟩) n c := q0; have q1e : r (.tmp 112) = .bool false := q1; exact ⟨⟨_, q1e, rfl⟩, by simp [go_sem, q0e]⟩) ?_
        refine tab_val (.int .i64 (k : Int)) (fun r w1 hr hg hA => by obtain ⟨q0, ⟨_, q1⟩, -⟩ := hA; have q0e : r (.tmp 10) = .int .i64 (k : Int) := q0; have q1e : r (.tmp 112) = .bool false := q1; exact ⟨⟨_, q1e, rfl⟩, by simp [go_sem, q0e]⟩) ?_
        refine tab_val (.pointer (some ⟨bl, ol + k * 2, none⟩)) (fun r w1 hr hg hA => by obtain ⟨⟨_, q0⟩, ⟨_, q1⟩, ⟨_, q2⟩, -⟩ := hA; have q0e : r (.tmp 118) = .slice (some ⟨bl, ol, none⟩) n c := q0; have q1e : r (.tmp 119) = .int .i64 (k : Int) := q1; have q2e : r (.tmp 112) = .bool false := q2; exact ⟨⟨_, q2e, rfl⟩, by simp [go_sem, q0e, q1e, I1.out, I2.out]⟩) ?_
        refine tab_val (.pointer (some ⟨bl, ol + k * 2 + 1, none⟩)) (fun r w1 hr hg hA => by obtain ⟨⟨_, q0⟩, ⟨_, q1⟩, -⟩ := hA; have q0e : r (.tmp 120) = .pointer (some ⟨bl, ol + k * 2, none⟩) := q0; have q1e : r (.tmp 112) = .bool false := q1; exact ⟨⟨_, q1e, rfl⟩, by simp [go_sem, q0e]⟩) ?_
        refine tab_val (.int .i64 (py)) (fun r w1 hr hg hA => by obtain ⟨⟨_, q0⟩, ⟨_, q1⟩, -⟩ := hA; have q0e : r (.tmp 121) = .pointer (some ⟨bl, ol + k * 2 + 1, none⟩) := q0; have q1e : r (.tmp 112) = .bool false := q1; have hc := F10.out w1 (hg1.trans hg); exact ⟨⟨_, q1e, rfl⟩, by simp [go_sem, q0e, hc]⟩) ?_
        refine tab_val (.pointer (some ⟨w.heap.size, 2, none⟩)) (fun r w1 hr hg hA => by obtain ⟨q0, ⟨_, q1⟩, -⟩ := hA; have q0e : r (.tmp 2) = .pointer (some ⟨w.heap.size, 0, none⟩) := q0; have q1e : r (.tmp 112) = .bool false := q1; exact ⟨⟨_, q1e, rfl⟩, by simp [go_sem, q0e]⟩) ?_
        refine tab_val (.int .i64 (y)) (fun r w1 hr hg hA => by obtain ⟨⟨_, q0⟩, ⟨_, q1⟩, -⟩ := hA; have q0e : r (.tmp 123) = .pointer (some ⟨w.heap.size, 2, none⟩) := q0; have q1e : r (.tmp 112) = .bool false := q1; have hc := F10.out w1 (hg1.trans hg); exact ⟨⟨_, q1e, rfl⟩, by simp [go_sem, q0e, hc]⟩) ?_
        refine tab_val (.int .i64 (4096 * y)) (fun r w1 hr hg hA => by obtain ⟨⟨_, q0⟩, ⟨_, q1⟩, -⟩ := hA; have q0e : r (.tmp 124) = .int .i64 (y) := q0; have q1e : r (.tmp 112) = .bool false := q1; exact ⟨⟨_, q1e, rfl⟩, by simp [go_sem, hr.const, q0e, M2.out]⟩) ?_
        refine tab_val (.int .i64 (wrap64 (py + 4096 * y))) (fun r w1 hr hg hA => by obtain ⟨⟨_, q0⟩, ⟨_, q1⟩, ⟨_, q2⟩, -⟩ := hA; have q0e : r (.tmp 122) = .int .i64 (py) := q0; have q1e : r (.tmp 125) = .int .i64 (4096 * y) := q1; have q2e : r (.tmp 112) = .bool false := q2; exact ⟨⟨_, q2e, rfl⟩, by simp [go_sem, q0e, q1e, i64w]⟩) ?_
        refine tab_val (.bool false) (fun r w1 hr hg hA => by obtain ⟨⟨_, q0⟩, ⟨_, q1⟩, ⟨_, q2⟩, -⟩ := hA; have q0e : r (.tmp 117) = .int .i64 (wrap64 (py + 4096 * y)) := q0; have q1e : r (.tmp 126) = .int .i64 (wrap64 (py + 4096 * y)) := q1; have q2e : r (.tmp 112) = .bool false := q2; exact ⟨⟨_, q2e, rfl⟩, by simp [go_sem, q0e, q1e]⟩) ?_
        refine tab_val (.bool false) (fun r w1 hr hg hA => by obtain ⟨⟨_, q0⟩, ⟨_, q1⟩, -⟩ := hA; have q0e : r (.tmp 112) = .bool false := q0; have q1e : r (.tmp 127) = .bool false := q1; exact ⟨rfl, by simp [go_sem, q0e, q1e]⟩) ?_
        refine tab_end ?_
        simp only [List.reverse_cons, List.reverse_nil, List.nil_append, List.cons_append, Out, BlockP, forall_eq, forall_const, Act.put, List.setIfInBounds_toArray, List.set_cons_succ, List.set_cons_zero]
        intro wA2 hgA
        have G3 := Lib.hid (G.out.trans (hg1.trans hgA))
        clear hg1 hg1' hgA hw0
        go_wp2
        exact ⟨⟨k + 1, by simp, by omega, G3.out⟩, by simp only [intOf]; omega⟩
      · obtain rfl : k = n := by omega
        go_wp2_with fail
        refine (kn_any _).mono ?_
        rintro _ we ⟨rfl, hg⟩
        have K6 := Lib.hid (K5.out.trans (G.out.trans hg))
        obtain ⟨b9, o9, rfl, -, p0, p1⟩ := ((H9.out.grows (G.out.trans hg))).at_ (i := 0) (by decide)
        obtain ⟨⟨t0, t1, t2⟩, -⟩ := BX.out _ (G2.out.trans K6.out)
        clear hg
        replace p0 : we.cell? ⟨b9, o9, none⟩ = some (.int .i64 0) := p0
        replace p1 : we.cell? ⟨b9, o9 + 1, none⟩ = some (.int .i64 0) := p1
        go_wp2_with fail
        refine (HWA.out _ _ (HA.out.grows K6.out)).mono ?_
        rintro _ wf ⟨vf, rfl, hvf, hg⟩
        have K7 := Lib.hid (K6.out.trans hg)
        have HVF := Lib.hid hvf
        clear hg hvf p0 p1 t0 t1 t2
        obtain ⟨⟨t0, t1, t2⟩, -⟩ := BX.out _ (G2.out.trans K7.out)
        go_wp2_with fail
        refine (ofs_any _ L _ (HU.out.grows (G2.out.trans K7.out)) (by have := HN.out; omega)).mono ?_
        rintro _ wg ⟨vg, rfl, hvg, hg⟩
        have K8 := Lib.hid (K7.out.trans hg)
        have HVG := Lib.hid (own_pts hvg rfl (by have := HN.out; omega))
        have HVF2 := Lib.hid (HVF.out.grows hg)
        clear hg hvg t0 t1 t2
        go_wp2_with fail
        refine (same_true _ _ L _ HVF2.out HVG.out (by have := HN.out; omega)).mono ?_
        rintro _ wh ⟨rfl, hg⟩
        have K9 := Lib.hid (K8.out.trans hg)
        clear hg
        obtain ⟨⟨t0, t1, t2⟩, -⟩ := BX.out _ (G2.out.trans K9.out)
        go_wp2_with fail
        refine (HLB.out _ _ (HB.out.grows K9.out)).mono ?_
        rintro _ wi ⟨vi, rfl, hvi, hg⟩
        have K10 := Lib.hid (K9.out.trans hg)
        have HVI := Lib.hid hvi
        clear hg hvi t0 t1 t2
        go_wp2_with fail
        refine (ofs_any _ L _ (HU.out.grows (G2.out.trans K10.out)) (by have := HN.out; omega)).mono ?_
        rintro _ wj ⟨vj, rfl, hvj, hg⟩
        have K11 := Lib.hid (K10.out.trans hg)
        have HVJ := Lib.hid (own_pts hvj rfl (by have := HN.out; omega))
        have HVI2 := Lib.hid (HVI.out.grows hg)
        clear hg hvj
        go_wp2_with fail
        refine (same_true _ _ L _ HVI2.out HVJ.out (by have := HN.out; omega)).mono ?_
        rintro _ wk ⟨rfl, hg⟩
        have K12 := Lib.hid (G2.out.trans (K11.out.trans hg))
        clear hg
        go_wp2
        go_ret
        exact ⟨rfl, (BX.out _ K12.out).2⟩
end Go.Proofs.Ytfhohgemfojjmaa
