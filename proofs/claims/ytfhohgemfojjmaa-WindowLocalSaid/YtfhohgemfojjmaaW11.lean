/-
  Layer 20: the document's tile that has a point.
-/
import Derived.Test.YtfhohgemfojjmaaW10
namespace Go.Proofs.Ytfhohgemfojjmaa
open Go.RowKit Go.Tab Go.WideShapes

set_option maxHeartbeats 1000000 in
theorem rshown_any (z buf : Int) (b : BoxI) (w : World) : Calls Try.prog 24 #[.int .i64 z, .int .i64 buf, bx b] w fun e W' => ∃ v, e = .returned v ∧ W'.ownsRow w.heap.size 35 3 v (shownL z buf b).length (flatT (shownL z buf b)) ∧ Grows w W' := by
  have C3 : (0 ≤ buf ∧ buf ≤ 2047) ∨ buf < 0 ∨ 2047 < buf := by omega
  rcases C3 with ⟨h0, h1⟩ | h
  · cases hr : b.right with
    | true => exact rshown_yes z buf b w h0 h1 hr
    | false =>
      have HR := Lib.hid (rboxright_any b)
      rw [show shownL z buf b = [] by unfold shownL; rw [hr]; rfl]
      rw [hr] at HR
      obtain ⟨lx, ly, hx, hy⟩ := b
      clear hr
      go_enter Try.func24, Try.ntmps24
      go_wp2_with fail
      refine (HR.out _).mono ?_
      rintro _ w1 ⟨rfl, hg⟩
      have G1 := Lib.hid (((Grows.refl w).al _).trans hg)
      clear hg
      go_wp2
      go_ret
      exact ⟨_, rfl, World.ownsRow_nil _ _ _ _, G1.out⟩
  · rw [shownL_no h]
    obtain ⟨lx, ly, hx, hy⟩ := b
    rcases h with h | h
    all_goals
      go_enter Try.func24, Try.ntmps24
      go_wp2
      go_ret
      exact ⟨_, rfl, World.ownsRow_nil _ _ _ _, (Grows.refl w).al _⟩

/-- Does a tile's place have a point? -/
def placeB (px py : Int) (t : Tl) : Bool := meetB (winBox t.1 t.2.1 t.2.2 0) ⟨px, py, px, py⟩
theorem mayB_self {px py : Int} : (BoxI.mk px py px py).right = mayB px py := by
  rw [Bool.eq_iff_iff, BoxI.right_iff]
  simp
theorem place_iff {px py z x y : Int} (ht : tileB z x y = true) : placeB px py (z, x, y) = true ↔ mayB px py = true ∧ 4096 * x ≤ px ∧ px ≤ 4096 * x + 4096 ∧ 4096 * y ≤ py ∧ py ≤ 4096 * y + 4096 := by
  obtain ⟨x0, x1, y0, y1⟩ := tileB_bd ht
  have hw : winBox z x y 0 = ⟨4096 * x, 4096 * y, 4096 * x + 4096, 4096 * y + 4096⟩ := by
    unfold winBox
    rw [if_pos (by simp [winB, ht])]
    simp
  have hr : (BoxI.mk (4096 * x) (4096 * y) (4096 * x + 4096) (4096 * y + 4096)).right = true := by
    rw [BoxI.right_iff]
    simp only [mayB_iff]
    omega
  unfold placeB
  simp only [hw]
  unfold meetB
  rw [hr, mayB_self]
  simp [and_assoc]

theorem tk_tile (z : Int) {k : Nat} (hk : k < wideN z * wideN z) : tileB z (tk z (wideN z) k).2.1 (tk z (wideN z) k).2.2 = true := by
  have : tk z (wideN z) k ∈ tilesL z := by
    unfold tilesL tilesM
    exact List.mem_map.2 ⟨k, List.mem_range.2 hk, rfl⟩
  exact (tilesL_mem this).2
theorem of_core {z px py : Int} {n a b : Nat} (hn : wideN z = n) (ha : a < n) (hb : b < n) : placeB px py (z, (a : Int), (b : Int)) = true ↔ mayB px py = true ∧ 4096 * (a : Int) ≤ px ∧ px ≤ 4096 * (a : Int) + 4096 ∧ 4096 * (b : Int) ≤ py ∧ py ≤ 4096 * (b : Int) + 4096 :=
  place_iff (by unfold tileB; rw [hn]; simp; omega)
theorem level_of {z : Int} {n : Nat} (hn : wideN z = n) (h : 0 < n) : levelB z = true := by
  rcases wide_cases z with rfl | rfl | rfl | rfl | rfl | ⟨_, h2⟩
  iterate 5 rfl
  omega
theorem of_hit {z px py : Int} {n a b : Nat} (hn : wideN z = n) (ha : a < n) (hb : b < n) (hq : placeB px py (z, (a : Int), (b : Int)) = true)
    (hno : ∀ a' b' : Nat, a' < n → b' < n → a * n + b < a' * n + b' → placeB px py (z, (a' : Int), (b' : Int)) = false) : hasB z px py = true ∧ ofT z px py = (z, (a : Int), (b : Int)) := by
  obtain ⟨hm, h1, h2, h3, h4⟩ := (of_core hn ha hb).1 hq
  have hh : hasB z px py = true := by
    unfold hasB
    rw [level_of hn (by omega), hn]
    simp; omega
  refine ⟨hh, ?_⟩
  unfold ofT
  rw [if_pos hh, hn]
  obtain ⟨X, hX⟩ : ∃ X : Nat, (X : Int) = min (px / 4096) ((n : Int) - 1) := ⟨(min (px / 4096) ((n : Int) - 1)).toNat, by omega⟩
  obtain ⟨Y, hY⟩ : ∃ Y : Nat, (Y : Int) = min (py / 4096) ((n : Int) - 1) := ⟨(min (py / 4096) ((n : Int) - 1)).toNat, by omega⟩
  have hXa : X = a := by
    by_cases h : X ≤ a
    · omega
    · have hlt : (a + 1) * n ≤ X * n := Nat.mul_le_mul_right n (by omega)
      rw [succ_mul'] at hlt
      have := hno X b (by omega) hb (by omega)
      rw [(of_core hn (by omega) hb).2 ⟨hm, by omega, by omega, h3, h4⟩] at this
      cases this
  have hYb : Y = b := by
    by_cases h : Y ≤ b
    · omega
    · have := hno a Y ha (by omega) (by omega)
      rw [(of_core hn ha (by omega)).2 ⟨hm, h1, h2, by omega, by omega⟩] at this
      cases this
  rw [← hX, ← hY, hXa, hYb]
theorem of_miss {z px py : Int} {n : Nat} (hn : wideN z = n) (hno : ∀ a b : Nat, a < n → b < n → placeB px py (z, (a : Int), (b : Int)) = false) : hasB z px py = false ∧ ofT z px py = (0, 0, 0) := by
  have hh : hasB z px py = false := by
    rw [← Bool.not_eq_true]
    intro hh
    have hn16 := wide_le z
    unfold hasB at hh
    rw [hn] at hh hn16
    simp at hh
    have hm : mayB px py = true := by rw [mayB_iff]; omega
    by_cases h0 : n = 0
    · subst h0
      obtain ⟨⟨⟨⟨hl, _⟩, _⟩, _⟩, _⟩ := hh
      rcases wide_cases z with rfl | rfl | rfl | rfl | rfl | ⟨h, _⟩
      iterate 5 (cases hn)
      rw [h] at hl
      cases hl
    · obtain ⟨X, hX⟩ : ∃ X : Nat, (X : Int) = min (px / 4096) ((n : Int) - 1) := ⟨(min (px / 4096) ((n : Int) - 1)).toNat, by omega⟩
      obtain ⟨Y, hY⟩ : ∃ Y : Nat, (Y : Int) = min (py / 4096) ((n : Int) - 1) := ⟨(min (py / 4096) ((n : Int) - 1)).toNat, by omega⟩
      have := hno X Y (by omega) (by omega)
      rw [(of_core hn (by omega) (by omega)).2 ⟨hm, by omega, by omega, by omega, by omega⟩] at this
      cases this
  exact ⟨hh, by unfold ofT; rw [hh]; rfl⟩
theorem getD_tiles (z : Int) {k : Nat} (hk : k < (tilesL z).length) : (tilesL z).getD k (0, 0, 0) = tk z (wideN z) k := by
  unfold tilesL tilesM at hk ⊢
  rw [List.getD_eq_getElem?_getD, List.getElem?_eq_getElem hk]
  simp
/-- By places in the list. -/
theorem of_hit' {z px py : Int} {k : Nat} (hk : k < (tilesL z).length) (hq : placeB px py ((tilesL z).getD k (0, 0, 0)) = true)
    (hno : ∀ j, k < j → j < (tilesL z).length → placeB px py ((tilesL z).getD j (0, 0, 0)) = false) : hasB z px py = true ∧ ofT z px py = (tilesL z).getD k (0, 0, 0) := by
  have hl : (tilesL z).length = wideN z * wideN z := by unfold tilesL; rw [tilesM_length]
  rw [getD_tiles z hk] at hq ⊢
  rw [hl] at hk
  generalize hn : wideN z = n at hl hk hq ⊢
  have hn0 : 0 < n := by cases n <;> omega
  have h1 : k / n < n := Nat.div_lt_of_lt_mul hk
  have h2 : k % n < n := Nat.mod_lt _ hn0
  have hkk : k / n * n + k % n = k := by rw [Nat.mul_comm]; exact Nat.div_add_mod k n
  refine of_hit hn h1 h2 hq fun a' b' ha' hb' hlt => ?_
  rw [hkk] at hlt
  have := hno (a' * n + b') hlt (by rw [hl]; exact at_lt ha' hb')
  rw [getD_tiles z (by rw [hl]; exact at_lt ha' hb'), hn, tk_at z hb'] at this
  exact this
theorem of_miss' {z px py : Int} (hno : ∀ j, j < (tilesL z).length → placeB px py ((tilesL z).getD j (0, 0, 0)) = false) : hasB z px py = false ∧ ofT z px py = (0, 0, 0) := by
  have hl : (tilesL z).length = wideN z * wideN z := by unfold tilesL; rw [tilesM_length]
  generalize hn : wideN z = n at hl
  refine of_miss hn fun a b ha hb => ?_
  have := hno (a * n + b) (by rw [hl]; exact at_lt ha hb)
  rw [getD_tiles z (by rw [hl]; exact at_lt ha hb), hn, tk_at z hb] at this
  exact this
end Go.Proofs.Ytfhohgemfojjmaa
