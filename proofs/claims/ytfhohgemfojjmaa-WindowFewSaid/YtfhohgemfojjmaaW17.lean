/-
  Layer 20: which tiles show a point (pure).
-/
import Derived.Test.YtfhohgemfojjmaaW13
namespace Go.Proofs.Ytfhohgemfojjmaa
open Go.RowKit Go.Tab Go.WideShapes

theorem sub_len {α : Type} [DecidableEq α] : ∀ (l m : List α), l.Nodup → (∀ x ∈ l, x ∈ m) → l.length ≤ m.length
  | [], _, _, _ => Nat.zero_le _
  | a :: l, m, hn, hs => by
    have ha : a ∈ m := hs a (by simp)
    have h1 := sub_len l (m.erase a) (List.nodup_cons.1 hn).2 fun x hx => (List.mem_erase_of_ne (fun e : x = a => (List.nodup_cons.1 hn).1 (by rw [← e]; exact hx))).2 (hs x (by simp [hx]))
    rw [List.length_erase_of_mem ha] at h1
    have : 0 < m.length := List.length_pos_of_mem ha
    simp
    omega
theorem tk_inj {z : Int} {n j k : Nat} (h : tk z n j = tk z n k) : j = k := by
  simp only [tk, Prod.mk.injEq, true_and] at h
  obtain ⟨h1, h2⟩ := h
  have e1 : j / n = k / n := by exact_mod_cast h1
  have e2 : j % n = k % n := by exact_mod_cast h2
  rw [← Nat.div_add_mod j n, ← Nat.div_add_mod k n, e1, e2]
theorem tilesL_nodup (z : Int) : (tilesL z).Nodup := by
  unfold tilesL tilesM
  rw [List.nodup_iff_pairwise_ne, List.pairwise_map]
  exact (List.nodup_iff_pairwise_ne.1 List.nodup_range).imp fun h e => h (tk_inj e)
theorem shownL_nodup (z buf : Int) (b : BoxI) : (shownL z buf b).Nodup := by
  unfold shownL
  split
  · exact (tilesL_nodup z).filter _
  · exact List.nodup_nil
/-- What is shown of a point. -/
theorem shown_mem {z buf px py : Int} {t : Tl} (h : t ∈ shownL z buf ⟨px, py, px, py⟩) :
    t.1 = z ∧ tileB z t.2.1 t.2.2 = true ∧ 0 ≤ buf ∧ buf ≤ 2047 ∧ 4096 * t.2.1 - buf < px ∧ px < 4096 * t.2.1 + 4096 + buf ∧ 4096 * t.2.2 - buf < py ∧ py < 4096 * t.2.2 + 4096 + buf := by
  unfold shownL at h
  split at h
  · obtain ⟨h1, h2⟩ := List.mem_filter.1 h
    obtain ⟨e, ht⟩ := tilesL_mem h1
    simp only [showT, Bool.and_eq_true] at h2
    obtain ⟨hw, ho⟩ := h2
    have hw' := hw
    simp only [winB, Bool.and_eq_true, decide_eq_true_eq] at hw'
    obtain ⟨⟨_, b0⟩, b1⟩ := hw'
    unfold winBox at ho
    rw [if_pos hw] at ho
    simp only [openB, Bool.and_eq_true, decide_eq_true_eq] at ho
    obtain ⟨⟨⟨o1, o2⟩, o3⟩, o4⟩ := ho
    rw [e] at ht
    exact ⟨e, ht, b0, b1, o2, o1, o4, o3⟩
  · cases h
theorem shown_of {z buf px py tx ty : Int} (hm : mayB px py = true) (hl : (z, tx, ty) ∈ tilesL z) (b0 : 0 ≤ buf) (b1 : buf ≤ 2047) (h1 : 4096 * tx - buf < px) (h2 : px < 4096 * tx + 4096 + buf) (h3 : 4096 * ty - buf < py) (h4 : py < 4096 * ty + 4096 + buf) :
    (z, tx, ty) ∈ shownL z buf ⟨px, py, px, py⟩ := by
  have ht := (tilesL_mem hl).2
  unfold shownL
  rw [if_pos (by rw [mayB_self]; exact hm)]
  refine List.mem_filter.2 ⟨hl, ?_⟩
  have hw : winB z tx ty buf = true := by
    unfold winB
    simp only at ht
    rw [ht]
    simp [b0, b1]
  unfold showT winBox
  simp only
  rw [if_pos hw, hw]
  simp [openB, h1, h2, h3, h4]
/-- At most four tiles show a point. -/
theorem shown_four (z buf px py : Int) : (shownL z buf ⟨px, py, px, py⟩).length ≤ 4 := by
  refine sub_len _ [(z, (px + 2047) / 4096 - 1, (py + 2047) / 4096 - 1), (z, (px + 2047) / 4096 - 1, (py + 2047) / 4096), (z, (px + 2047) / 4096, (py + 2047) / 4096 - 1), (z, (px + 2047) / 4096, (py + 2047) / 4096)] (shownL_nodup _ _ _) fun t ht => ?_
  obtain ⟨e, _, b0, b1, h1, h2, h3, h4⟩ := shown_mem ht
  obtain ⟨tz, tx, ty⟩ := t
  simp only at e h1 h2 h3 h4
  subst e
  have c1 : tx = (px + 2047) / 4096 - 1 ∨ tx = (px + 2047) / 4096 := by omega
  have c2 : ty = (py + 2047) / 4096 - 1 ∨ ty = (py + 2047) / 4096 := by omega
  rcases c1 with c1 | c1 <;> rcases c2 with c2 | c2 <;> simp [← c1, ← c2]
theorem shown_one (z px py : Int) : (shownL z 0 ⟨px, py, px, py⟩).length ≤ 1 := by
  refine sub_len _ [(z, px / 4096, py / 4096)] (shownL_nodup _ _ _) fun t ht => ?_
  obtain ⟨e, _, b0, b1, h1, h2, h3, h4⟩ := shown_mem ht
  obtain ⟨tz, tx, ty⟩ := t
  simp only at e h1 h2 h3 h4
  subst e
  have c1 : tx = px / 4096 := by omega
  have c2 : ty = py / 4096 := by omega
  simp [c1, c2]
/-- The tile that has a point. -/
theorem of_facts {z px py : Int} (h : hasB z px py = true) : ∃ tx ty : Int, ofT z px py = (z, tx, ty) ∧ (z, tx, ty) ∈ tilesL z ∧ mayB px py = true ∧ 4096 * tx ≤ px ∧ px ≤ 4096 * tx + 4096 ∧ 4096 * ty ≤ py ∧ py ≤ 4096 * ty + 4096 := by
  have h' := h
  have hn16 := wide_le z
  unfold hasB at h'
  simp only [Bool.and_eq_true, decide_eq_true_eq] at h'
  obtain ⟨⟨⟨⟨hl, x0⟩, x1⟩, y0⟩, y1⟩ := h'
  have hn : 0 < wideN z := by
    rcases wide_cases z with rfl | rfl | rfl | rfl | rfl | ⟨h, _⟩
    iterate 5 decide
    rw [h] at hl; cases hl
  refine ⟨min (px / 4096) ((wideN z : Int) - 1), min (py / 4096) ((wideN z : Int) - 1), by unfold ofT; rw [if_pos h], ?_, by rw [mayB_iff]; omega, by omega, by omega, by omega, by omega⟩
  obtain ⟨X, hX⟩ : ∃ X : Nat, (X : Int) = min (px / 4096) ((wideN z : Int) - 1) := ⟨(min (px / 4096) ((wideN z : Int) - 1)).toNat, by omega⟩
  obtain ⟨Y, hY⟩ : ∃ Y : Nat, (Y : Int) = min (py / 4096) ((wideN z : Int) - 1) := ⟨(min (py / 4096) ((wideN z : Int) - 1)).toNat, by omega⟩
  rw [← hX, ← hY]
  unfold tilesL tilesM
  exact List.mem_map.2 ⟨X * wideN z + Y, List.mem_range.2 (at_lt (by omega) (by omega)), tk_at z (by omega)⟩
end Go.Proofs.Ytfhohgemfojjmaa
