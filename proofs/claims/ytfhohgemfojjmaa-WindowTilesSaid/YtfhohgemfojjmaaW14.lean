/-
  Layer 20: the law on tiles, their windows, their order.
-/
import Derived.Test.YtfhohgemfojjmaaW13
namespace Go.Proofs.Ytfhohgemfojjmaa
open Go.RowKit Go.Tab Go.WideShapes

theorem set3 {w : World} {b : Nat} {u v t x y z : Value} {T : TypeId} (h : w.heap[b]? = some (.cells #[u, v, t] T (0, 0))) :
    (((w.setCell ⟨b, 0, none⟩ x).setCell ⟨b, 1, none⟩ y).setCell ⟨b, 2, none⟩ z).heap[b]? = some (.cells #[x, y, z] T (0, 0)) := by
  simp [World.setCell, Array.getElem?_modify, h]
theorem set3o {w : World} {b k : Nat} {x y z : Value} (h : k ≠ b) : (((w.setCell ⟨b, 0, none⟩ x).setCell ⟨b, 1, none⟩ y).setCell ⟨b, 2, none⟩ z).heap[k]? = w.heap[k]? := by
  have h' : ¬ b = k := fun e => h e.symm
  simp [World.setCell, Array.getElem?_modify, h']
set_option maxRecDepth 100000 in
set_option maxHeartbeats 8000000 in
theorem tiles_law (z x y z2 x2 y2 buf : Int) (w : World) : Calls Try.prog 3 #[tl z x y, tl z2 x2 y2, .int .i64 buf] w (Ret (.bool true) w) := by
  have HR := Lib.hid (wright_any z x y)
  have HRR := Lib.hid (rtright_any z x y)
  have HWN := Lib.hid (window_any z x y buf)
  have HWR := Lib.hid (rwindow_any z x y buf)
  have HPL := Lib.hid (place_any z x y)
  have HW0 := Lib.hid (rwindow_any z x y 0)
  have HL := Lib.hid (wless_any z x y z2 x2 y2)
  have HLR := Lib.hid (rtless_any z x y z2 x2 y2)
  have HLE := tilesL_le z
  have HALL : Hid (∀ w, Calls Try.prog 16 #[.int .i64 z] w fun e w' => ∃ v, e = .returned v ∧ TlsAt w' v (tilesL z) ∧ Grows w w') := Lib.hid fun w => (wall_any z w).mono fun e w' ⟨v, he, ho, hg⟩ => ⟨v, he, own_tls ho rfl (by omega), hg⟩
  have HRALL : Hid (∀ w, Calls Try.prog 17 #[.int .i64 z] w fun e w' => ∃ v, e = .returned v ∧ TlsAt w' v (tilesL z) ∧ Grows w w') := Lib.hid fun w => (rall_any z w).mono fun e w' ⟨v, he, ho, hg⟩ => ⟨v, he, own_tls ho rfl (by omega), hg⟩
  have HSAME := Lib.hid (fun u v w hu hv => tsame_true u v (tilesL z) w hu hv)
  have HPA := Lib.hid (parent_any z x y)
  have HCASE : Hid ((tileB z x y = false ∧ parB z x y = false ∧ parT z x y = (0, 0, 0)) ∨ (tileB z x y = true ∧ z = 0 ∧ parB z x y = false ∧ parT z x y = (0, 0, 0)) ∨ (tileB z x y = true ∧ 0 < z ∧ z ≤ 4 ∧ 0 ≤ x ∧ x < 16 ∧ 0 ≤ y ∧ y < 16 ∧ parB z x y = true ∧ parT z x y = (z - 1, x / 2, y / 2))) := Lib.hid (by
    cases ht : tileB z x y with
    | false => have hp : parB z x y = false := by unfold parB; rw [ht]; rfl
               exact .inl ⟨rfl, hp, by unfold parT; rw [hp]; rfl⟩
    | true =>
      by_cases hz : z = 0
      · have hp : parB z x y = false := by unfold parB; simp [hz]
        exact .inr (.inl ⟨rfl, hz, hp, by unfold parT; rw [hp]; rfl⟩)
      · have hp : parB z x y = true := by unfold parB; rw [ht]; simp [hz]
        have hl : 0 ≤ z ∧ z ≤ 4 := by
          cases h : levelB z
          · rw [tileB_no h] at ht; cases ht
          · simpa [levelB] using h
        obtain ⟨a, a', b, b'⟩ := tileB_bd ht
        exact .inr (.inr ⟨rfl, by omega, hl.2, a, a', b, b', hp, by unfold parT; rw [hp]; rfl⟩))
  generalize tilesL z = L at HALL HRALL HSAME
  generalize tileB z x y = tb at HR HRR HCASE
  generalize parB z x y = pb at HPA HCASE
  generalize parT z x y = pT at HPA HCASE
  generalize winBox z x y buf = u at HWN HWR
  generalize winB z x y buf = t at HWN HWR
  generalize winBox z x y 0 = v at HPL HW0
  generalize winB z x y 0 = t0 at HPL HW0
  generalize lessT z x y z2 x2 y2 = ls at HL HLR
  obtain ⟨ulx, uly, uhx, uhy⟩ := u
  obtain ⟨vlx, vly, vhx, vhy⟩ := v
  have HBX := Lib.hid (box_any ulx uly uhx uhy)
  have HBY := Lib.hid (box_any vlx vly vhx vhy)
  clear HLE
  have HA : Hid (∀ w', Grows ((w.alloc (.cells #[.int .i64 z, .int .i64 x, .int .i64 y] 23)).alloc (.cells #[.int .i64 z2, .int .i64 x2, .int .i64 y2] 23)) w' →
      (w'.cell? ⟨w.heap.size, 0, none⟩ = some (.int .i64 z) ∧ w'.cell? ⟨w.heap.size, 1, none⟩ = some (.int .i64 x) ∧ w'.cell? ⟨w.heap.size, 2, none⟩ = some (.int .i64 y)) ∧
      (w'.cell? ⟨w.heap.size + 1, 0, none⟩ = some (.int .i64 z2) ∧ w'.cell? ⟨w.heap.size + 1, 1, none⟩ = some (.int .i64 x2) ∧ w'.cell? ⟨w.heap.size + 1, 2, none⟩ = some (.int .i64 y2)) ∧ Grows w w') :=
    Lib.hid fun w' hg => ⟨cells3 (hg.block ((Grows.alloc _ _).block (heap_new _ _ _ rfl))), cells3 (hg.block (heap_new _ _ _ (by simp only [World.size_alloc]))), (((Grows.refl w).al _).al _).trans hg⟩
  go_enter Try.func3, Try.ntmps3
  go_wp2_with fail
  refine (HWN.out _).mono ?_
  rintro _ wa ⟨rfl, hg⟩
  have G1 := Lib.hid (hg.al (.cells #[.int .i64 ulx, .int .i64 uly, .int .i64 uhx, .int .i64 uhy] 27))
  have B1 := Lib.hid (heap_new wa (.cells #[.int .i64 ulx, .int .i64 uly, .int .i64 uhx, .int .i64 uhy] 27) _ rfl)
  obtain ⟨⟨a0, a1, a2⟩, -, -⟩ := HA.out _ G1.out
  clear hg
  go_wp2_with fail
  refine (HWR.out _).mono ?_
  rintro _ wb ⟨rfl, hg⟩
  clear a0 a1 a2
  have K2 := Lib.hid (hg.al (.cells #[.int .i64 ulx, .int .i64 uly, .int .i64 uhx, .int .i64 uhy] 32))
  have G2 := Lib.hid (G1.out.trans K2.out)
  have B2 := Lib.hid (heap_new wb (.cells #[.int .i64 ulx, .int .i64 uly, .int .i64 uhx, .int .i64 uhy] 32) _ rfl)
  obtain ⟨⟨a0, a1, a2⟩, -, -⟩ := HA.out _ G2.out
  clear hg
  go_wp2_with fail
  refine (HPL.out _).mono ?_
  rintro _ wc ⟨rfl, hg⟩
  clear a0 a1 a2
  have K3 := Lib.hid (hg.al (.cells #[.int .i64 vlx, .int .i64 vly, .int .i64 vhx, .int .i64 vhy] 27))
  have G3 := Lib.hid (G2.out.trans K3.out)
  have B3 := Lib.hid (heap_new wc (.cells #[.int .i64 vlx, .int .i64 vly, .int .i64 vhx, .int .i64 vhy] 27) _ rfl)
  obtain ⟨⟨a0, a1, a2⟩, -, -⟩ := HA.out _ G3.out
  clear hg
  go_wp2_with fail
  refine (HW0.out _).mono ?_
  rintro _ wd ⟨rfl, hg⟩
  clear a0 a1 a2
  have K4 := Lib.hid (hg.al (.cells #[.int .i64 vlx, .int .i64 vly, .int .i64 vhx, .int .i64 vhy] 32))
  have G4 := Lib.hid (G3.out.trans K4.out)
  have B4 := Lib.hid (heap_new wd (.cells #[.int .i64 vlx, .int .i64 vly, .int .i64 vhx, .int .i64 vhy] 32) _ rfl)
  clear hg
  have FCT : Hid (∀ w', Grows (wd.alloc (.cells #[.int .i64 vlx, .int .i64 vly, .int .i64 vhx, .int .i64 vhy] 32)) w' →
      (w'.cell? ⟨w.heap.size, 0, none⟩ = some (.int .i64 z) ∧ w'.cell? ⟨w.heap.size, 1, none⟩ = some (.int .i64 x) ∧ w'.cell? ⟨w.heap.size, 2, none⟩ = some (.int .i64 y)) ∧
      (w'.cell? ⟨w.heap.size + 1, 0, none⟩ = some (.int .i64 z2) ∧ w'.cell? ⟨w.heap.size + 1, 1, none⟩ = some (.int .i64 x2) ∧ w'.cell? ⟨w.heap.size + 1, 2, none⟩ = some (.int .i64 y2)) ∧
      (w'.cell? ⟨wa.heap.size, 0, none⟩ = some (.int .i64 ulx) ∧ w'.cell? ⟨wa.heap.size, 1, none⟩ = some (.int .i64 uly) ∧ w'.cell? ⟨wa.heap.size, 2, none⟩ = some (.int .i64 uhx) ∧ w'.cell? ⟨wa.heap.size, 3, none⟩ = some (.int .i64 uhy)) ∧
      (w'.cell? ⟨wb.heap.size, 0, none⟩ = some (.int .i64 ulx) ∧ w'.cell? ⟨wb.heap.size, 1, none⟩ = some (.int .i64 uly) ∧ w'.cell? ⟨wb.heap.size, 2, none⟩ = some (.int .i64 uhx) ∧ w'.cell? ⟨wb.heap.size, 3, none⟩ = some (.int .i64 uhy)) ∧
      (w'.cell? ⟨wc.heap.size, 0, none⟩ = some (.int .i64 vlx) ∧ w'.cell? ⟨wc.heap.size, 1, none⟩ = some (.int .i64 vly) ∧ w'.cell? ⟨wc.heap.size, 2, none⟩ = some (.int .i64 vhx) ∧ w'.cell? ⟨wc.heap.size, 3, none⟩ = some (.int .i64 vhy)) ∧
      (w'.cell? ⟨wd.heap.size, 0, none⟩ = some (.int .i64 vlx) ∧ w'.cell? ⟨wd.heap.size, 1, none⟩ = some (.int .i64 vly) ∧ w'.cell? ⟨wd.heap.size, 2, none⟩ = some (.int .i64 vhx) ∧ w'.cell? ⟨wd.heap.size, 3, none⟩ = some (.int .i64 vhy))) :=
    Lib.hid fun w' hg => by
      obtain ⟨h1, h2, _⟩ := HA.out _ (G4.out.trans hg)
      exact ⟨h1, h2, cells4 (hg.block (K4.out.block (K3.out.block (K2.out.block B1.out)))), cells4 (hg.block (K4.out.block (K3.out.block B2.out))), cells4 (hg.block (K4.out.block B3.out)), cells4 (hg.block B4.out)⟩
  go_wp2_with fail
  refine wp_region_tab 46 (by kernel_rfl) (by kernel_rfl) ?_
  intro w0 hw0 hg1 hg1'
  simp only [List.take_succ_cons, List.take_zero, List.drop_succ_cons, List.drop_zero]
  refine tab_val (tl z x y) (fun r w1 hr hg hA => by obtain ⟨q0, -⟩ := hA; have q0e : r (.tmp 3) = .pointer (some ⟨w.heap.size, 0, none⟩) := q0; have hc := FCT.out w1 (hg1.trans hg); exact ⟨rfl, by simp [go_sem, q0e, hc]⟩) ?_
  refine tab_call (v := .bool tb) (fun w1 hg => HR.out w1) (fun r w1 hr hg hA => by obtain ⟨⟨_, q0⟩, -⟩ := hA; have q0e : r (.tmp 41) = tl z x y := q0; exact ⟨rfl, by simp [go_sem, hr.func, q0e]⟩) ?_
  refine tab_val (tl z x y) (fun r w1 hr hg hA => by obtain ⟨q0, -⟩ := hA; have q0e : r (.tmp 3) = .pointer (some ⟨w.heap.size, 0, none⟩) := q0; have hc := FCT.out w1 (hg1.trans hg); exact ⟨rfl, by simp [go_sem, q0e, hc]⟩) ?_
  refine tab_call (v := .bool tb) (fun w1 hg => HRR.out w1) (fun r w1 hr hg hA => by obtain ⟨⟨_, q0⟩, -⟩ := hA; have q0e : r (.tmp 43) = tl z x y := q0; exact ⟨rfl, by simp [go_sem, hr.func, q0e]⟩) ?_
  refine tab_val (.bool false) (fun r w1 hr hg hA => by obtain ⟨⟨_, q0⟩, ⟨_, q1⟩, -⟩ := hA; have q0e : r (.tmp 42) = .bool tb := q0; have q1e : r (.tmp 44) = .bool tb := q1; exact ⟨rfl, by simp [go_sem, q0e, q1e]⟩) ?_
  refine tab_val (.bool false) (fun r w1 hr hg hA => by obtain ⟨⟨_, q0⟩, -⟩ := hA; have q0e : r (.tmp 45) = .bool false := q0; exact ⟨rfl, by simp [go_sem, q0e]⟩) ?_
  refine tab_val (.bool t) (fun r w1 hr hg hA => by obtain ⟨q0, ⟨_, q1⟩, -⟩ := hA; have q0e : r (.tmp 8) = .bool t := q0; have q1e : r (.tmp 46) = .bool false := q1; exact ⟨⟨_, q1e, rfl⟩, by simp [go_sem, q0e]⟩) ?_
  refine tab_val (.bool t) (fun r w1 hr hg hA => by obtain ⟨q0, ⟨_, q1⟩, -⟩ := hA; have q0e : r (.tmp 10) = .bool t := q0; have q1e : r (.tmp 46) = .bool false := q1; exact ⟨⟨_, q1e, rfl⟩, by simp [go_sem, q0e]⟩) ?_
  refine tab_val (.bool false) (fun r w1 hr hg hA => by obtain ⟨⟨_, q0⟩, ⟨_, q1⟩, ⟨_, q2⟩, -⟩ := hA; have q0e : r (.tmp 47) = .bool t := q0; have q1e : r (.tmp 48) = .bool t := q1; have q2e : r (.tmp 46) = .bool false := q2; exact ⟨⟨_, q2e, rfl⟩, by simp [go_sem, q0e, q1e]⟩) ?_
  refine tab_val (.bool false) (fun r w1 hr hg hA => by obtain ⟨⟨_, q0⟩, ⟨_, q1⟩, -⟩ := hA; have q0e : r (.tmp 46) = .bool false := q0; have q1e : r (.tmp 49) = .bool false := q1; exact ⟨rfl, by simp [go_sem, q0e, q1e]⟩) ?_
  refine tab_val (.bool false) (fun r w1 hr hg hA => by obtain ⟨⟨_, q0⟩, -⟩ := hA; have q0e : r (.tmp 50) = .bool false := q0; exact ⟨rfl, by simp [go_sem, q0e]⟩) ?_
  refine tab_val (bx ⟨ulx, uly, uhx, uhy⟩) (fun r w1 hr hg hA => by obtain ⟨q0, ⟨_, q1⟩, -⟩ := hA; have q0e : r (.tmp 7) = .pointer (some ⟨wa.heap.size, 0, none⟩) := q0; have q1e : r (.tmp 51) = .bool false := q1; have hc := FCT.out w1 (hg1.trans hg); exact ⟨⟨_, q1e, rfl⟩, by simp [go_sem, q0e, hc]⟩) ?_
  refine tab_call (v := bx ⟨ulx, uly, uhx, uhy⟩) (fun w1 hg => HBX.out w1) (fun r w1 hr hg hA => by obtain ⟨⟨_, q0⟩, ⟨_, q1⟩, -⟩ := hA; have q0e : r (.tmp 52) = bx ⟨ulx, uly, uhx, uhy⟩ := q0; have q1e : r (.tmp 51) = .bool false := q1; exact ⟨⟨_, q1e, rfl⟩, by simp [go_sem, hr.func, q0e]⟩) ?_
  refine tab_val (bx ⟨ulx, uly, uhx, uhy⟩) (fun r w1 hr hg hA => by obtain ⟨q0, ⟨_, q1⟩, -⟩ := hA; have q0e : r (.tmp 9) = .pointer (some ⟨wb.heap.size, 0, none⟩) := q0; have q1e : r (.tmp 51) = .bool false := q1; have hc := FCT.out w1 (hg1.trans hg); exact ⟨⟨_, q1e, rfl⟩, by simp [go_sem, q0e, hc]⟩) ?_
  refine tab_val (.bool false) (fun r w1 hr hg hA => by obtain ⟨⟨_, q0⟩, ⟨_, q1⟩, ⟨_, q2⟩, -⟩ := hA; have q0e : r (.tmp 53) = bx ⟨ulx, uly, uhx, uhy⟩ := q0; have q1e : r (.tmp 54) = bx ⟨ulx, uly, uhx, uhy⟩ := q1; have q2e : r (.tmp 51) = .bool false := q2; exact ⟨⟨_, q2e, rfl⟩, by simp [go_sem, q0e, q1e]⟩) ?_
  refine tab_val (.bool false) (fun r w1 hr hg hA => by obtain ⟨⟨_, q0⟩, ⟨_, q1⟩, -⟩ := hA; have q0e : r (.tmp 51) = .bool false := q0; have q1e : r (.tmp 55) = .bool false := q1; exact ⟨rfl, by simp [go_sem, q0e, q1e]⟩) ?_
  refine tab_val (.bool false) (fun r w1 hr hg hA => by obtain ⟨⟨_, q0⟩, -⟩ := hA; have q0e : r (.tmp 56) = .bool false := q0; exact ⟨rfl, by simp [go_sem, q0e]⟩) ?_
  refine tab_val (.bool t0) (fun r w1 hr hg hA => by obtain ⟨q0, ⟨_, q1⟩, -⟩ := hA; have q0e : r (.tmp 12) = .bool t0 := q0; have q1e : r (.tmp 57) = .bool false := q1; exact ⟨⟨_, q1e, rfl⟩, by simp [go_sem, q0e]⟩) ?_
  refine tab_val (.bool t0) (fun r w1 hr hg hA => by obtain ⟨q0, ⟨_, q1⟩, -⟩ := hA; have q0e : r (.tmp 14) = .bool t0 := q0; have q1e : r (.tmp 57) = .bool false := q1; exact ⟨⟨_, q1e, rfl⟩, by simp [go_sem, q0e]⟩) ?_
  refine tab_val (.bool false) (fun r w1 hr hg hA => by obtain ⟨⟨_, q0⟩, ⟨_, q1⟩, ⟨_, q2⟩, -⟩ := hA; have q0e : r (.tmp 58) = .bool t0 := q0; have q1e : r (.tmp 59) = .bool t0 := q1; have q2e : r (.tmp 57) = .bool false := q2; exact ⟨⟨_, q2e, rfl⟩, by simp [go_sem, q0e, q1e]⟩) ?_
  refine tab_val (.bool false) (fun r w1 hr hg hA => by obtain ⟨⟨_, q0⟩, ⟨_, q1⟩, -⟩ := hA; have q0e : r (.tmp 57) = .bool false := q0; have q1e : r (.tmp 60) = .bool false := q1; exact ⟨rfl, by simp [go_sem, q0e, q1e]⟩) ?_
  refine tab_val (.bool false) (fun r w1 hr hg hA => by obtain ⟨⟨_, q0⟩, -⟩ := hA; have q0e : r (.tmp 61) = .bool false := q0; exact ⟨rfl, by simp [go_sem, q0e]⟩) ?_
  refine tab_val (bx ⟨vlx, vly, vhx, vhy⟩) (fun r w1 hr hg hA => by obtain ⟨q0, ⟨_, q1⟩, -⟩ := hA; have q0e : r (.tmp 11) = .pointer (some ⟨wc.heap.size, 0, none⟩) := q0; have q1e : r (.tmp 62) = .bool false := q1; have hc := FCT.out w1 (hg1.trans hg); exact ⟨⟨_, q1e, rfl⟩, by simp [go_sem, q0e, hc]⟩) ?_
  refine tab_call (v := bx ⟨vlx, vly, vhx, vhy⟩) (fun w1 hg => HBY.out w1) (fun r w1 hr hg hA => by obtain ⟨⟨_, q0⟩, ⟨_, q1⟩, -⟩ := hA; have q0e : r (.tmp 63) = bx ⟨vlx, vly, vhx, vhy⟩ := q0; have q1e : r (.tmp 62) = .bool false := q1; exact ⟨⟨_, q1e, rfl⟩, by simp [go_sem, hr.func, q0e]⟩) ?_
  refine tab_val (bx ⟨vlx, vly, vhx, vhy⟩) (fun r w1 hr hg hA => by obtain ⟨q0, ⟨_, q1⟩, -⟩ := hA; have q0e : r (.tmp 13) = .pointer (some ⟨wd.heap.size, 0, none⟩) := q0; have q1e : r (.tmp 62) = .bool false := q1; have hc := FCT.out w1 (hg1.trans hg); exact ⟨⟨_, q1e, rfl⟩, by simp [go_sem, q0e, hc]⟩) ?_
  refine tab_val (.bool false) (fun r w1 hr hg hA => by obtain ⟨⟨_, q0⟩, ⟨_, q1⟩, ⟨_, q2⟩, -⟩ := hA; have q0e : r (.tmp 64) = bx ⟨vlx, vly, vhx, vhy⟩ := q0; have q1e : r (.tmp 65) = bx ⟨vlx, vly, vhx, vhy⟩ := q1; have q2e : r (.tmp 62) = .bool false := q2; exact ⟨⟨_, q2e, rfl⟩, by simp [go_sem, q0e, q1e]⟩) ?_
  refine tab_val (.bool false) (fun r w1 hr hg hA => by obtain ⟨⟨_, q0⟩, ⟨_, q1⟩, -⟩ := hA; have q0e : r (.tmp 62) = .bool false := q0; have q1e : r (.tmp 66) = .bool false := q1; exact ⟨rfl, by simp [go_sem, q0e, q1e]⟩) ?_
  refine tab_val (.bool false) (fun r w1 hr hg hA => by obtain ⟨⟨_, q0⟩, -⟩ := hA; have q0e : r (.tmp 67) = .bool false := q0; exact ⟨rfl, by simp [go_sem, q0e]⟩) ?_
  refine tab_val (tl z x y) (fun r w1 hr hg hA => by obtain ⟨q0, ⟨_, q1⟩, -⟩ := hA; have q0e : r (.tmp 3) = .pointer (some ⟨w.heap.size, 0, none⟩) := q0; have q1e : r (.tmp 68) = .bool false := q1; have hc := FCT.out w1 (hg1.trans hg); exact ⟨⟨_, q1e, rfl⟩, by simp [go_sem, q0e, hc]⟩) ?_
  refine tab_val (tl z2 x2 y2) (fun r w1 hr hg hA => by obtain ⟨q0, ⟨_, q1⟩, -⟩ := hA; have q0e : r (.tmp 4) = .pointer (some ⟨w.heap.size + 1, 0, none⟩) := q0; have q1e : r (.tmp 68) = .bool false := q1; have hc := FCT.out w1 (hg1.trans hg); exact ⟨⟨_, q1e, rfl⟩, by simp [go_sem, q0e, hc]⟩) ?_
  refine tab_call (v := .bool ls) (fun w1 hg => HL.out w1) (fun r w1 hr hg hA => by obtain ⟨⟨_, q0⟩, ⟨_, q1⟩, ⟨_, q2⟩, -⟩ := hA; have q0e : r (.tmp 69) = tl z x y := q0; have q1e : r (.tmp 70) = tl z2 x2 y2 := q1; have q2e : r (.tmp 68) = .bool false := q2; exact ⟨⟨_, q2e, rfl⟩, by simp [go_sem, hr.func, q0e, q1e]⟩) ?_
  refine tab_val (tl z x y) (fun r w1 hr hg hA => by obtain ⟨q0, ⟨_, q1⟩, -⟩ := hA; have q0e : r (.tmp 3) = .pointer (some ⟨w.heap.size, 0, none⟩) := q0; have q1e : r (.tmp 68) = .bool false := q1; have hc := FCT.out w1 (hg1.trans hg); exact ⟨⟨_, q1e, rfl⟩, by simp [go_sem, q0e, hc]⟩) ?_
  refine tab_val (tl z2 x2 y2) (fun r w1 hr hg hA => by obtain ⟨q0, ⟨_, q1⟩, -⟩ := hA; have q0e : r (.tmp 4) = .pointer (some ⟨w.heap.size + 1, 0, none⟩) := q0; have q1e : r (.tmp 68) = .bool false := q1; have hc := FCT.out w1 (hg1.trans hg); exact ⟨⟨_, q1e, rfl⟩, by simp [go_sem, q0e, hc]⟩) ?_
  refine tab_call (v := .bool ls) (fun w1 hg => HLR.out w1) (fun r w1 hr hg hA => by obtain ⟨⟨_, q0⟩, ⟨_, q1⟩, ⟨_, q2⟩, -⟩ := hA; have q0e : r (.tmp 72) = tl z x y := q0; have q1e : r (.tmp 73) = tl z2 x2 y2 := q1; have q2e : r (.tmp 68) = .bool false := q2; exact ⟨⟨_, q2e, rfl⟩, by simp [go_sem, hr.func, q0e, q1e]⟩) ?_
  refine tab_val (.bool false) (fun r w1 hr hg hA => by obtain ⟨⟨_, q0⟩, ⟨_, q1⟩, ⟨_, q2⟩, -⟩ := hA; have q0e : r (.tmp 71) = .bool ls := q0; have q1e : r (.tmp 74) = .bool ls := q1; have q2e : r (.tmp 68) = .bool false := q2; exact ⟨⟨_, q2e, rfl⟩, by simp [go_sem, q0e, q1e]⟩) ?_
  refine tab_val (.bool false) (fun r w1 hr hg hA => by obtain ⟨⟨_, q0⟩, ⟨_, q1⟩, -⟩ := hA; have q0e : r (.tmp 68) = .bool false := q0; have q1e : r (.tmp 75) = .bool false := q1; exact ⟨rfl, by simp [go_sem, q0e, q1e]⟩) ?_
  refine tab_val (.bool false) (fun r w1 hr hg hA => by obtain ⟨⟨_, q0⟩, -⟩ := hA; have q0e : r (.tmp 76) = .bool false := q0; exact ⟨rfl, by simp [go_sem, q0e]⟩) ?_
  refine tab_val (.pointer (some ⟨w.heap.size, 0, none⟩)) (fun r w1 hr hg hA => by obtain ⟨q0, ⟨_, q1⟩, -⟩ := hA; have q0e : r (.tmp 3) = .pointer (some ⟨w.heap.size, 0, none⟩) := q0; have q1e : r (.tmp 77) = .bool false := q1; exact ⟨⟨_, q1e, rfl⟩, by simp [go_sem, q0e]⟩) ?_
  refine tab_val (.int .i64 z) (fun r w1 hr hg hA => by obtain ⟨⟨_, q0⟩, ⟨_, q1⟩, -⟩ := hA; have q0e : r (.tmp 78) = .pointer (some ⟨w.heap.size, 0, none⟩) := q0; have q1e : r (.tmp 77) = .bool false := q1; have hc := FCT.out w1 (hg1.trans hg); exact ⟨⟨_, q1e, rfl⟩, by simp [go_sem, q0e, hc]⟩) ?_
  refine tab_callQ (fun v w => TlsAt w v L) (fun v w w' h hg => h.grows hg) (fun r w1 hr hg hA => by obtain ⟨⟨_, q0⟩, ⟨_, q1⟩, -⟩ := hA; have q0e : r (.tmp 79) = .int .i64 z := q0; have q1e : r (.tmp 77) = .bool false := q1; exact ⟨⟨_, q1e, rfl⟩, #[.int .i64 z], by simp [go_sem, hr.func, q0e], HALL.out w1⟩) ?_
  refine tab_val (.pointer (some ⟨w.heap.size, 0, none⟩)) (fun r w1 hr hg hA => by obtain ⟨q0, ⟨_, q1⟩, -⟩ := hA; have q0e : r (.tmp 3) = .pointer (some ⟨w.heap.size, 0, none⟩) := q0; have q1e : r (.tmp 77) = .bool false := q1; exact ⟨⟨_, q1e, rfl⟩, by simp [go_sem, q0e]⟩) ?_
  refine tab_val (.int .i64 z) (fun r w1 hr hg hA => by obtain ⟨⟨_, q0⟩, ⟨_, q1⟩, -⟩ := hA; have q0e : r (.tmp 81) = .pointer (some ⟨w.heap.size, 0, none⟩) := q0; have q1e : r (.tmp 77) = .bool false := q1; have hc := FCT.out w1 (hg1.trans hg); exact ⟨⟨_, q1e, rfl⟩, by simp [go_sem, q0e, hc]⟩) ?_
  refine tab_callQ (fun v w => TlsAt w v L) (fun v w w' h hg => h.grows hg) (fun r w1 hr hg hA => by obtain ⟨⟨_, q0⟩, ⟨_, q1⟩, -⟩ := hA; have q0e : r (.tmp 82) = .int .i64 z := q0; have q1e : r (.tmp 77) = .bool false := q1; exact ⟨⟨_, q1e, rfl⟩, #[.int .i64 z], by simp [go_sem, hr.func, q0e], HRALL.out w1⟩) ?_
  refine tab_callP (v := .bool true) (fun r w1 hr hg hA => by obtain ⟨⟨_, q0⟩, ⟨_, q1⟩, ⟨_, q2⟩, -⟩ := hA; have q2e : r (.tmp 77) = .bool false := q2; exact ⟨⟨_, q2e, rfl⟩, #[r (.tmp 80), r (.tmp 83)], by simp [go_sem, hr.func], HSAME.out _ _ w1 q0 q1⟩) ?_
  refine tab_val (.bool false) (fun r w1 hr hg hA => by obtain ⟨⟨_, q0⟩, ⟨_, q1⟩, -⟩ := hA; have q0e : r (.tmp 84) = .bool true := q0; have q1e : r (.tmp 77) = .bool false := q1; exact ⟨⟨_, q1e, rfl⟩, by simp [go_sem, q0e]⟩) ?_
  refine tab_val (.bool false) (fun r w1 hr hg hA => by obtain ⟨⟨_, q0⟩, ⟨_, q1⟩, -⟩ := hA; have q0e : r (.tmp 77) = .bool false := q0; have q1e : r (.tmp 85) = .bool false := q1; exact ⟨rfl, by simp [go_sem, q0e, q1e]⟩) ?_
  refine tab_end ?_
  simp only [List.reverse_cons, List.reverse_nil, List.nil_append, List.cons_append, Out, BlockP, forall_eq, forall_const, Act.put, List.setIfInBounds_toArray, List.set_cons_succ, List.set_cons_zero]
  intro wA hgA v80 h80 v83 h83
  have G5 := Lib.hid (G4.out.trans (hg1.trans hgA))
  clear hg1 hg1' hw0 hgA h80 h83 FCT HALL HRALL HSAME
  obtain ⟨⟨a0, a1, a2⟩, -, -⟩ := HA.out _ G5.out
  rcases HCASE.out with ⟨rfl, rfl, rfl⟩ | ⟨rfl, rfl, rfl, rfl⟩ | ⟨rfl, hz0, hz4, hx0, hx1, hy0, hy1, rfl, rfl⟩
  · clear HCASE
    go_wp2_with fail
    refine (HPA.out _).mono ?_
    rintro _ we ⟨rfl, hg⟩
    clear a0 a1 a2
    have G6 := Lib.hid (G5.out.trans hg)
    have HB15 := Lib.hid (heap_new we (.cells #[.int .i64 0, .int .i64 0, .int .i64 0] 23) _ rfl)
    have HB17 := Lib.hid (heap_new (we.alloc (.cells #[.int .i64 0, .int .i64 0, .int .i64 0] 23)) (.cells #[.int .i64 0, .int .i64 0, .int .i64 0] 35) (we.heap.size + 1) (by simp only [World.size_alloc]))
    have G7 := Lib.hid ((G6.out.al (.cells #[.int .i64 0, .int .i64 0, .int .i64 0] 23)).al (.cells #[.int .i64 0, .int .i64 0, .int .i64 0] 35))
    obtain ⟨⟨a0, a1, a2⟩, -, -⟩ := HA.out _ G7.out
    clear hg
    go_wp2_with fail
    refine (HRR.out _).mono ?_
    rintro _ wf ⟨rfl, hg⟩
    have G8 := Lib.hid (G7.out.trans hg)
    have HC15 := Lib.hid (hg.block ((Grows.alloc _ (.cells #[.int .i64 0, .int .i64 0, .int .i64 0] 35)).block HB15.out))
    have HC17 := Lib.hid (hg.block HB17.out)
    clear hg a0 a1 a2
    obtain ⟨⟨a0, a1, a2⟩, -, -⟩ := HA.out _ G8.out
    obtain ⟨e0, e1, e2⟩ := cells3 HC17.out
    have f0 := froz HC17.out 0
    have f1 := froz HC17.out 1
    have f2 := froz HC17.out 2
    go_wp2_with fail
    refine (kn_any _).mono ?_
    rintro _ wg ⟨rfl, hg⟩
    have C15 := Lib.hid (hg.block HC15.out)
    have C17 := Lib.hid (hg.block HC17.out)
    have G9 := Lib.hid (G8.out.trans hg)
    obtain ⟨k0, k1, k2⟩ := cells3 C15.out
    obtain ⟨m0, m1, m2⟩ := cells3 C17.out
    clear hg a0 a1 a2 e0 e1 e2 f0 f1 f2
    go_wp2
    go_ret
    exact ⟨rfl, (HA.out _ G9.out).2.2⟩
  · clear HCASE
    go_wp2_with fail
    refine (HPA.out _).mono ?_
    rintro _ we ⟨rfl, hg⟩
    clear a0 a1 a2
    have G6 := Lib.hid (G5.out.trans hg)
    have HB15 := Lib.hid (heap_new we (.cells #[.int .i64 0, .int .i64 0, .int .i64 0] 23) _ rfl)
    have HB17 := Lib.hid (heap_new (we.alloc (.cells #[.int .i64 0, .int .i64 0, .int .i64 0] 23)) (.cells #[.int .i64 0, .int .i64 0, .int .i64 0] 35) (we.heap.size + 1) (by simp only [World.size_alloc]))
    have G7 := Lib.hid ((G6.out.al (.cells #[.int .i64 0, .int .i64 0, .int .i64 0] 23)).al (.cells #[.int .i64 0, .int .i64 0, .int .i64 0] 35))
    obtain ⟨⟨a0, a1, a2⟩, -, -⟩ := HA.out _ G7.out
    clear hg
    go_wp2_with fail
    refine (HRR.out _).mono ?_
    rintro _ wf ⟨rfl, hg⟩
    have G8 := Lib.hid (G7.out.trans hg)
    have HC15 := Lib.hid (hg.block ((Grows.alloc _ (.cells #[.int .i64 0, .int .i64 0, .int .i64 0] 35)).block HB15.out))
    have HC17 := Lib.hid (hg.block HB17.out)
    clear hg a0 a1 a2
    obtain ⟨⟨a0, a1, a2⟩, -, -⟩ := HA.out _ G8.out
    obtain ⟨e0, e1, e2⟩ := cells3 HC17.out
    have f0 := froz HC17.out 0
    have f1 := froz HC17.out 1
    have f2 := froz HC17.out 2
    go_wp2_with fail
    refine (kn_any _).mono ?_
    rintro _ wg ⟨rfl, hg⟩
    have C15 := Lib.hid (hg.block HC15.out)
    have C17 := Lib.hid (hg.block HC17.out)
    have G9 := Lib.hid (G8.out.trans hg)
    obtain ⟨k0, k1, k2⟩ := cells3 C15.out
    obtain ⟨m0, m1, m2⟩ := cells3 C17.out
    clear hg a0 a1 a2 e0 e1 e2 f0 f1 f2
    go_wp2
    go_ret
    exact ⟨rfl, (HA.out _ G9.out).2.2⟩
  · clear HCASE
    have hzB : decide (0 < z) = true := by simpa using hz0
    go_wp2_with fail
    refine (HPA.out _).mono ?_
    rintro _ we ⟨rfl, hg⟩
    clear a0 a1 a2
    have G6 := Lib.hid (G5.out.trans hg)
    have HB15 := Lib.hid (heap_new we (.cells #[.int .i64 (z - 1), .int .i64 (x / 2), .int .i64 (y / 2)] 23) _ rfl)
    have HB17 := Lib.hid (heap_new (we.alloc (.cells #[.int .i64 (z - 1), .int .i64 (x / 2), .int .i64 (y / 2)] 23)) (.cells #[.int .i64 0, .int .i64 0, .int .i64 0] 35) (we.heap.size + 1) (by simp only [World.size_alloc]))
    have G7 := Lib.hid ((G6.out.al (.cells #[.int .i64 (z - 1), .int .i64 (x / 2), .int .i64 (y / 2)] 23)).al (.cells #[.int .i64 0, .int .i64 0, .int .i64 0] 35))
    obtain ⟨⟨a0, a1, a2⟩, -, -⟩ := HA.out _ G7.out
    clear hg
    go_wp2_with fail
    refine (HRR.out _).mono ?_
    rintro _ wf ⟨rfl, hg⟩
    have G8 := Lib.hid (G7.out.trans hg)
    have HC15 := Lib.hid (hg.block ((Grows.alloc _ (.cells #[.int .i64 0, .int .i64 0, .int .i64 0] 35)).block HB15.out))
    have HC17 := Lib.hid (hg.block HB17.out)
    clear hg a0 a1 a2
    obtain ⟨⟨a0, a1, a2⟩, -, -⟩ := HA.out _ G8.out
    obtain ⟨e0, e1, e2⟩ := cells3 HC17.out
    have f0 := froz HC17.out 0
    have f1 := froz HC17.out 1
    have f2 := froz HC17.out 2
    go_wp2_with fail
    refine (kn_any _).mono ?_
    rintro _ wg ⟨rfl, hg⟩
    have C15 := Lib.hid (hg.block ((set3o (by omega)).trans HC15.out))
    have C17 := Lib.hid (hg.block (set3 HC17.out))
    have G9 := Lib.hid ((((G8.out.st (by simp only [World.size_alloc]; have := G6.out.size; simp at this; omega) _).st (by simp only [World.size_alloc]; have := G6.out.size; simp at this; omega) _).st (by simp only [World.size_alloc]; have := G6.out.size; simp at this; omega) _).trans hg)
    obtain ⟨k0, k1, k2⟩ := cells3 C15.out
    obtain ⟨m0, m1, m2⟩ := cells3 C17.out
    clear hg a0 a1 a2 e0 e1 e2 f0 f1 f2
    go_wp2
    go_ret
    exact ⟨rfl, (HA.out _ G9.out).2.2⟩
end Go.Proofs.Ytfhohgemfojjmaa
