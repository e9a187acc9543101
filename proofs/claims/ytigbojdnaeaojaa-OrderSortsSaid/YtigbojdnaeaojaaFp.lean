/-
  Rows of points and of whole numbers, as the frame opens them.
-/
import Derived.Test.YtigbojdnaeaojaaFr
import Derived.Test.YtigbojdnaeaojaaO2p
import Derived.Deep.SlicePairs
namespace Go.Proofs.Ytigbojdnaeaojaa
open Go.ChangeShapes Go.WideShapes Go.ChangeAt Go.RowKit Go.Tab Go.Joins Go.Deep

theorem point_cells : Try.prog.cellsOf 47 = 2 := by kernel_rfl
theorem pts_of {H : Type} {enc : TypeId × Value → H} {w : World} {held : Bool} {r : Reach} {b : Nat} {v : Value} {d : DataW H} {p : List MemPlace} (hv : Value.okWide Try.prog w r b 22 v)
    (h : DataW.Trod enc Try.prog w 0 (fun _ => true) held 22 v d p) :
    ∃ (a : Option Addr) (n cap : Nat) (V0 V1 : Nat → Int), v = .slice a n cap ∧ n ≤ cap ∧ cap ≤ maxLen ∧ (a = none → cap = 0) ∧
      ((n = 0) ∨ ∃ b off, a = some ⟨b, off, none⟩ ∧ b < w.heap.size ∧ ∀ i, i < n → w.cell? ⟨b, off + i * 2, none⟩ = some (.int .i64 (V0 i)) ∧ w.cell? ⟨b, off + i * 2 + 1, none⟩ = some (.int .i64 (V1 i))) := by
  obtain ⟨a, n, cap, rfl⟩ := okWide_slice Try.underlying22 hv
  obtain ⟨fuel, hf⟩ := h
  rcases open_slice_pairs Try.underlying22 Try.underlying47 point_cells rfl rfl (by kernel_rfl) (by kernel_rfl) hf with ⟨hcs, _⟩ | ⟨a', len', cap', m, fl, V0, V1, D0, D1, P0, P1, hcs, hb, hl, hm, hmm, hx, hi⟩
  · simp [Value.cells] at hcs
    obtain ⟨rfl, rfl, rfl⟩ := hcs
    exact ⟨none, 0, 0, fun _ => 0, fun _ => 0, rfl, Nat.le_refl _, Nat.zero_le _, fun _ => rfl, .inl rfl⟩
  · simp [Value.cells] at hcs
    obtain ⟨rfl, rfl, rfl⟩ := hcs
    simp only [if_true] at hmm
    subst hmm
    refine ⟨_, _, _, fun i => intOf (V0 i), fun i => intOf (V1 i), rfl, hl, hm, (fun h => by cases h), ?_⟩
    by_cases hn : n = 0
    · exact .inl hn
    · right
      obtain ⟨b', off, spot⟩ := a'
      have hs := World.cell?_spot (hi 0 (by omega)).1
      simp [Addr.add] at hs
      subst hs
      refine ⟨b', off, rfl, cell_in (hi 0 (by omega)).1, fun i hin => ?_⟩
      obtain ⟨c0, c1, t0, t1⟩ := hi i (by omega)
      rw [add_plain] at c0 c1
      obtain ⟨x, ex, _⟩ := DataW.trod_int Try.underlying3 t0
      obtain ⟨y, ey, _⟩ := DataW.trod_int Try.underlying3 t1
      simp at ex ey
      simp only [ex, ey, intOf]
      rw [ex] at c0
      rw [ey] at c1
      exact ⟨c0, by rw [Nat.add_assoc]; exact c1⟩

def ptsL (V0 V1 : Nat → Int) (m : Nat) : List (Int × Int) := (List.range m).map fun i => (V0 i, V1 i)
theorem ptsL_len (V0 V1 : Nat → Int) (m : Nat) : (ptsL V0 V1 m).length = m := by simp [ptsL]
theorem pts_key {w : World} {a : Option Addr} {n c : Nat} {V0 V1 : Nat → Int} (hnc : n ≤ c) (hno : a = none → c = 0)
    (hc : (n = 0) ∨ ∃ b off, a = some ⟨b, off, none⟩ ∧ b < w.heap.size ∧ ∀ i, i < n → w.cell? ⟨b, off + i * 2, none⟩ = some (.int .i64 (V0 i)) ∧ w.cell? ⟨b, off + i * 2 + 1, none⟩ = some (.int .i64 (V1 i))) (m : Nat) (hm : m ≤ n) (hm2 : m ≤ 1000) :
    PtsAt w (.slice a m c) (ptsL V0 V1 m) := by
  refine ⟨by rw [ptsL_len]; omega, ?_⟩
  rw [ptsL_len]
  rcases hc with h0 | ⟨b, off, ha, hb, hi⟩
  · have : m = 0 := by omega
    subst this
    exact .inl ⟨⟨a, c, rfl, hno⟩, rfl⟩
  · refine .inr ⟨b, off, c, by rw [ha], hb, by omega, fun i him => ?_⟩
    have : (ptsL V0 V1 m).getD i (0, 0) = (V0 i, V1 i) := by
      unfold ptsL
      rw [List.getD_eq_getElem?_getD, List.getElem?_map, List.getElem?_range him]
      rfl
    rw [this]
    exact hi i (by omega)
def intsL (V : Nat → Int) (m : Nat) : List Int := (List.range m).map V
theorem intsL_len (V : Nat → Int) (m : Nat) : (intsL V m).length = m := by simp [intsL]
theorem ints_key {w : World} {a : Option Addr} {n c : Nat} {V : Nat → Int} (hnc : n ≤ c) (hno : a = none → c = 0)
    (hc : (n = 0) ∨ ∃ b off, a = some ⟨b, off, none⟩ ∧ b < w.heap.size ∧ ∀ i, i < n → w.cell? ⟨b, off + i, none⟩ = some (.int .i64 (V i))) (m : Nat) (hm : m ≤ n) (hm2 : m ≤ 1000) :
    IntsAt w (.slice a m c) (intsL V m) := by
  refine ⟨by rw [intsL_len]; omega, ?_⟩
  rw [intsL_len]
  rcases hc with h0 | ⟨b, off, ha, hb, hi⟩
  · have : m = 0 := by omega
    subst this
    exact .inl ⟨⟨a, c, rfl, hno⟩, rfl⟩
  · refine .inr ⟨b, off, c, by rw [ha], hb, by omega, fun i him => ?_⟩
    have : (intsL V m).getD i 0 = V i := by
      unfold intsL
      rw [List.getD_eq_getElem?_getD, List.getElem?_map, List.getElem?_range him]
      rfl
    rw [this]
    exact hi i (by omega)
end Go.Proofs.Ytigbojdnaeaojaa
