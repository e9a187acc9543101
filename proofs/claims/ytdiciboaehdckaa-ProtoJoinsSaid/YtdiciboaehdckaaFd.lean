/-
  The frame's lemmas: a slice of fields (three numbers and bytes).
-/
import Derived.Test.YtdiciboaehdckaaFn
import Derived.Test.YtdiciboaehdckaaD23
namespace Go.Proofs.Ytdiciboaehdckaa
open Go Go.ChangeShapes Go.WideShapes Go.ChangeAt Go.RowKit Go.Joins Go.Deep Go.Tab
section
variable {H : Type} {enc : TypeId × Value → H} {P : Program} {w : World} {held : Bool}

/-- Bytes as they come in, of which at most 50 are told. -/
def BsAt (w : World) (bv : Value) (bs : List Nat) : Prop :=
  (bv = .slice none 0 0 ∧ bs = []) ∨ ∃ ad ln cv, bv = .slice (some ad) ln cv ∧ ln ≤ cv ∧ NumsAt .u8 w (.slice (some ad) (min ln 50) cv) bs
theorem bs_trod {t e8 : TypeId} {fuel : Nat} {c : Value} {x : DataW H × List MemPlace} (h3 : P.underlying t = some (.slice e8)) (h4 : P.underlying e8 = some (.int .u8)) (hc8 : P.cellsOf e8 = 1)
    (h : DataW.trod enc P w 0 (fun _ => true) held fuel t [c] = some x) : ∃ bs, BsAt w c bs ∧ (∀ x ∈ bs, x < 256) ∧ bs.length ≤ 50 := by
  rcases open_slice1 h3 hc8 h with ⟨hcs, _⟩ | ⟨a', len, cap', m, fl, V, D, Pl, hcs, hb, hl, hm, hmm, _, hx⟩
  · simp at hcs
    exact ⟨[], .inl ⟨hcs, rfl⟩, (fun x hx => by cases hx), by simp⟩
  · simp at hcs
    simp only [if_true] at hmm
    subst hmm
    have key : ∀ i, i < len → ∃ x, V i = .int .u8 x ∧ (Lit.int .u8 x).wf = true := fun i hi => by
      obtain ⟨x, hx1, _, hw⟩ := DataW.trod_int h4 (hx i (by omega)).2
      simp at hx1
      exact ⟨x, hx1, hw⟩
    have hn := nums_key (k := .u8) (w := w) (a := some a') (n := len) (c := m) (B := 256) (V := fun i => intOf (V i)) u8_lt hl (fun i hi => by
        obtain ⟨x, hx1, hw⟩ := key i hi
        simp only [hx1, intOf]
        exact hw) (fun h => by cases h) (by
        by_cases hn : len = 0
        · exact .inl hn
        · right
          obtain ⟨b', off, spot⟩ := a'
          have hs := World.cell?_spot (hx 0 (by omega)).1
          simp [Addr.add] at hs
          subst hs
          refine ⟨b', off, rfl, ?_, fun i hi => ?_⟩
          · have := (hx 0 (by omega)).1
            exact cell_in this
          · obtain ⟨x, hx1, hw⟩ := key i hi
            have := (hx i (by omega)).1
            simp only [hx1, intOf]
            rw [hx1, add_plain] at this
            exact this) (min len 50) (by omega) (by omega)
    exact ⟨_, .inr ⟨a', len, m, hcs, hl, hn.1⟩, hn.2, by rw [numsL_len]; omega⟩
theorem fld_trod {e e8 : TypeId} {fuel : Nat} {cs : List Value} {x : DataW H × List MemPlace} {f0 f1 f2 f3 : Field} (hs : P.underlying e = some (.struct #[f0, f1, f2, f3])) (hC : P.cellsOf e = 4)
    (ho : f0.offset = 0 ∧ f1.offset = 1 ∧ f2.offset = 2 ∧ f3.offset = 3) (hc : P.cellsOf f0.type = 1 ∧ P.cellsOf f1.type = 1 ∧ P.cellsOf f2.type = 1 ∧ P.cellsOf f3.type = 1)
    (h0 : P.underlying f0.type = some (.int .i64)) (h1 : P.underlying f1.type = some (.int .i64)) (h2 : P.underlying f2.type = some (.int .u64)) (h3 : P.underlying f3.type = some (.slice e8)) (h4 : P.underlying e8 = some (.int .u8)) (hc8 : P.cellsOf e8 = 1)
    (h : DataW.trod enc P w 0 (fun _ => true) held fuel e cs = some x) : ∃ (f : Fld) (bv : Value), cs = [.int .i64 f.num, .int .i64 f.kind, .int .u64 (f.n : Int), bv] ∧ BsAt w bv f.bs ∧ (∀ x ∈ f.bs, x < 256) ∧ f.bs.length ≤ 50 := by
  obtain ⟨xs, k, _, _, hlen, hxl, hfs⟩ := DataW.trod_struct hs h
  rw [hC] at hlen
  have hx4 : xs.length = 4 := hxl
  obtain ⟨o0, o1, o2, o3⟩ := ho
  obtain ⟨k0, k1, k2, k3⟩ := hc
  match cs, hlen with
  | [c0, c1, c2, c3], _ =>
    have g0 : DataW.trod enc P w 0 (fun _ => true) held k f0.type [c0] = xs[0]? := by
      have := hfs 0 f0 rfl
      rw [o0, k0] at this
      exact this
    have g1 : DataW.trod enc P w 0 (fun _ => true) held k f1.type [c1] = xs[1]? := by
      have := hfs 1 f1 rfl
      rw [o1, k1] at this
      exact this
    have g2 : DataW.trod enc P w 0 (fun _ => true) held k f2.type [c2] = xs[2]? := by
      have := hfs 2 f2 rfl
      rw [o2, k2] at this
      exact this
    have g3 : DataW.trod enc P w 0 (fun _ => true) held k f3.type [c3] = xs[3]? := by
      have := hfs 3 f3 rfl
      rw [o3, k3] at this
      exact this
    rw [List.getElem?_eq_getElem (by omega)] at g0 g1 g2 g3
    obtain ⟨m0, e0, _, w0⟩ := DataW.trod_int h0 g0
    obtain ⟨m1, e1, _, w1⟩ := DataW.trod_int h1 g1
    obtain ⟨m2, e2, _, w2⟩ := DataW.trod_int h2 g2
    obtain ⟨bs, hb1, hb2, hb3⟩ := bs_trod h3 h4 hc8 g3
    simp at e0 e1 e2
    subst e0 e1 e2
    have hm := wf_u64 w2
    exact ⟨⟨m0, m1, m2.toNat, bs⟩, c3, by simp only [Int.toNat_of_nonneg hm.1], hb1, hb2, hb3⟩
/-- A slice of fields. -/
theorem flds_of {r : Reach} {b0 : Nat} {t e e8 : TypeId} {v : Value} {d : DataW H} {p : List MemPlace} {f0 f1 f2 f3 : Field} (ht : P.underlying t = some (.slice e)) (hs : P.underlying e = some (.struct #[f0, f1, f2, f3])) (hC : P.cellsOf e = 4)
    (ho : f0.offset = 0 ∧ f1.offset = 1 ∧ f2.offset = 2 ∧ f3.offset = 3) (hc : P.cellsOf f0.type = 1 ∧ P.cellsOf f1.type = 1 ∧ P.cellsOf f2.type = 1 ∧ P.cellsOf f3.type = 1)
    (h0 : P.underlying f0.type = some (.int .i64)) (h1 : P.underlying f1.type = some (.int .i64)) (h2 : P.underlying f2.type = some (.int .u64)) (h3 : P.underlying f3.type = some (.slice e8)) (h4 : P.underlying e8 = some (.int .u8)) (hc8 : P.cellsOf e8 = 1)
    (hv : Value.okWide P w r b0 t v) (h : DataW.Trod enc P w 0 (fun _ => true) held t v d p) :
    ∃ (a : Option Addr) (n cap : Nat) (F : Nat → Fld), v = .slice a n cap ∧ AFldsAt w v ((List.range n).map F) ∧ (∀ i, i < n → ∀ x ∈ (F i).bs, x < 256) ∧ ∀ i, i < n → (F i).bs.length ≤ 50 := by
  obtain ⟨a, n', cap, rfl⟩ := okWide_slice ht hv
  obtain ⟨fuel, hfu⟩ := h
  rcases open_slice ht hfu with ⟨hcs, _⟩ | ⟨a', len', cap', m, k, D, Pl, hcs, hb, hl, hm, hmm, hx, hi⟩
  · simp [Value.cells] at hcs
    obtain ⟨rfl, rfl, rfl⟩ := hcs
    exact ⟨none, 0, 0, fun _ => ⟨0, 0, 0, []⟩, rfl, .inl ⟨⟨none, 0, rfl, fun _ => rfl⟩, rfl⟩, fun i hi => absurd hi (Nat.not_lt_zero _), fun i hi => absurd hi (Nat.not_lt_zero _)⟩
  · simp [Value.cells] at hcs
    obtain ⟨rfl, rfl, rfl⟩ := hcs
    simp only [if_true] at hmm
    subst hmm
    have each : ∀ i, ∃ (f : Fld) (bv : Value), i < n' → (w.cell? ((a'.add (i * 4)).add 0) = some (.int .i64 f.num) ∧ w.cell? ((a'.add (i * 4)).add 1) = some (.int .i64 f.kind) ∧ w.cell? ((a'.add (i * 4)).add 2) = some (.int .u64 (f.n : Int)) ∧ w.cell? ((a'.add (i * 4)).add 3) = some bv) ∧ BsAt w bv f.bs ∧ (∀ x ∈ f.bs, x < 256) ∧ f.bs.length ≤ 50 := by
      intro i
      by_cases hin : i < n'
      · obtain ⟨cs', g1, g2⟩ := hi i (by omega)
        rw [hC] at g1
        obtain ⟨_, hlen, hcell⟩ := World.cells?_some g1
        obtain ⟨f, bv, rfl, hb1, hb2, hb3⟩ := fld_trod hs hC ho hc h0 h1 h2 h3 h4 hc8 g2
        have t0 := hcell 0 (by omega)
        have t1 := hcell 1 (by omega)
        have t2 := hcell 2 (by omega)
        have t3 := hcell 3 (by omega)
        exact ⟨f, bv, fun _ => ⟨⟨t0.symm ▸ rfl, t1.symm ▸ rfl, t2.symm ▸ rfl, t3.symm ▸ rfl⟩, hb1, hb2, hb3⟩⟩
      · exact ⟨⟨0, 0, 0, []⟩, .slice none 0 0, fun h => absurd h hin⟩
    obtain ⟨F, hF⟩ := Classical.skolem.1 each
    obtain ⟨B, all⟩ := Classical.skolem.1 hF
    clear each hF
    refine ⟨some a', n', _, F, rfl, ?_, fun i hin => (all i hin).2.2.1, fun i hin => (all i hin).2.2.2⟩
    by_cases hn : n' = 0
    · subst hn
      exact .inl ⟨⟨_, _, rfl, fun h => by cases h⟩, rfl⟩
    · obtain ⟨b', off, spot⟩ := a'
      have z0 := (all 0 (by omega)).1.1
      have hsp := World.cell?_spot z0
      simp [Addr.add] at hsp
      subst hsp
      rw [add_plain, add_plain] at z0
      refine .inr ⟨b', off, _, by rw [List.length_map, List.length_range], cell_in z0, by rw [List.length_map, List.length_range]; exact hl, fun i f hif => ?_⟩
      rw [List.getElem?_map] at hif
      obtain ⟨j, hj, rfl⟩ := Option.map_eq_some_iff.1 hif
      have hin : i < n' := by have := (List.getElem?_eq_some_iff.1 hj).1; rwa [List.length_range] at this
      rw [List.getElem?_range hin] at hj
      cases hj
      obtain ⟨⟨q0, q1, q2, q3⟩, hb1, _, _⟩ := all i hin
      rw [add_plain, add_plain] at q0 q1 q2 q3
      exact ⟨B i, q0, q1, q2, q3, hb1⟩
end
/-- The first 20 of these fields. -/
theorem take_facts {n : Nat} {F : Nat → Fld} (h1 : ∀ i, i < n → ∀ x ∈ (F i).bs, x < 256) (h2 : ∀ i, i < n → (F i).bs.length ≤ 50) :
    (((List.range n).map F).take 20).length ≤ 20 ∧ (∀ f ∈ ((List.range n).map F).take 20, ∀ x ∈ f.bs, x < 256) ∧ ∀ f ∈ ((List.range n).map F).take 20, f.bs.length ≤ 1000 := by
  refine ⟨by rw [List.length_take]; omega, fun f hf => ?_, fun f hf => ?_⟩
  · obtain ⟨i, hi, rfl⟩ := List.mem_map.1 (List.mem_of_mem_take hf)
    exact h1 i (List.mem_range.1 hi)
  · obtain ⟨i, hi, rfl⟩ := List.mem_map.1 (List.mem_of_mem_take hf)
    have := h2 i (List.mem_range.1 hi)
    omega
end Go.Proofs.Ytdiciboaehdckaa
