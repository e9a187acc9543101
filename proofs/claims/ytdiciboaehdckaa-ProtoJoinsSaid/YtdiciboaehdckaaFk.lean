/-
  The frame's lemmas: a slice of fields, each of which is one that Go's type takes.
-/
import Derived.Test.YtdiciboaehdckaaFd
namespace Go.Proofs.Ytdiciboaehdckaa
open Go Go.ChangeShapes Go.WideShapes Go.ChangeAt Go.RowKit Go.Joins Go.Deep Go.Tab
section
variable {H : Type} {enc : TypeId × Value → H} {P : Program} {w : World} {held : Bool}

theorem fld_trod2 {e e8 : TypeId} {fuel : Nat} {cs : List Value} {x : DataW H × List MemPlace} {f0 f1 f2 f3 : Field} (hs : P.underlying e = some (.struct #[f0, f1, f2, f3])) (hC : P.cellsOf e = 4)
    (ho : f0.offset = 0 ∧ f1.offset = 1 ∧ f2.offset = 2 ∧ f3.offset = 3) (hc : P.cellsOf f0.type = 1 ∧ P.cellsOf f1.type = 1 ∧ P.cellsOf f2.type = 1 ∧ P.cellsOf f3.type = 1)
    (h0 : P.underlying f0.type = some (.int .i64)) (h1 : P.underlying f1.type = some (.int .i64)) (h2 : P.underlying f2.type = some (.int .u64)) (h3 : P.underlying f3.type = some (.slice e8)) (h4 : P.underlying e8 = some (.int .u8)) (hc8 : P.cellsOf e8 = 1)
    (h : DataW.trod enc P w 0 (fun _ => true) held fuel e cs = some x) : ∃ (f : Fld) (bv : Value), cs = [.int .i64 f.num, .int .i64 f.kind, .int .u64 (f.n : Int), bv] ∧ BsAt w bv f.bs ∧ f.Ok ∧ f.bs.length ≤ 50 := by
  obtain ⟨xs, k, _, _, hlen, hxl, hfs⟩ := DataW.trod_struct hs h
  rw [hC] at hlen
  have hx4 : xs.length = 4 := hxl
  obtain ⟨o0, o1, o2, o3⟩ := ho
  obtain ⟨k0, k1, k2, k3⟩ := hc
  match cs, hlen with
  | [c0, c1, c2, c3], _ =>
    have g0 : DataW.trod enc P w 0 (fun _ => true) held k f0.type [c0] = xs[0]? := by
      have := hfs 0 f0 rfl
      rw [o0, k0] at this
      exact this
    have g1 : DataW.trod enc P w 0 (fun _ => true) held k f1.type [c1] = xs[1]? := by
      have := hfs 1 f1 rfl
      rw [o1, k1] at this
      exact this
    have g2 : DataW.trod enc P w 0 (fun _ => true) held k f2.type [c2] = xs[2]? := by
      have := hfs 2 f2 rfl
      rw [o2, k2] at this
      exact this
    have g3 : DataW.trod enc P w 0 (fun _ => true) held k f3.type [c3] = xs[3]? := by
      have := hfs 3 f3 rfl
      rw [o3, k3] at this
      exact this
    rw [List.getElem?_eq_getElem (by omega)] at g0 g1 g2 g3
    obtain ⟨m0, e0, _, w0⟩ := DataW.trod_int h0 g0
    obtain ⟨m1, e1, _, w1⟩ := DataW.trod_int h1 g1
    obtain ⟨m2, e2, _, w2⟩ := DataW.trod_int h2 g2
    obtain ⟨bs, hb1, hb2, hb3⟩ := bs_trod h3 h4 hc8 g3
    simp at e0 e1 e2
    subst e0 e1 e2
    have hm := wf_u64 w2
    exact ⟨⟨m0, m1, m2.toNat, bs⟩, c3, by simp only [Int.toNat_of_nonneg hm.1], hb1, ⟨by show m2.toNat < _; omega, hb2, by show bs.length ≤ 1000; omega, (wf_i64 w0).1, (wf_i64 w0).2, (wf_i64 w1).1, (wf_i64 w1).2⟩, hb3⟩
/-- A slice of fields. -/
theorem flds_of2 {r : Reach} {b0 : Nat} {t e e8 : TypeId} {v : Value} {d : DataW H} {p : List MemPlace} {f0 f1 f2 f3 : Field} (ht : P.underlying t = some (.slice e)) (hs : P.underlying e = some (.struct #[f0, f1, f2, f3])) (hC : P.cellsOf e = 4)
    (ho : f0.offset = 0 ∧ f1.offset = 1 ∧ f2.offset = 2 ∧ f3.offset = 3) (hc : P.cellsOf f0.type = 1 ∧ P.cellsOf f1.type = 1 ∧ P.cellsOf f2.type = 1 ∧ P.cellsOf f3.type = 1)
    (h0 : P.underlying f0.type = some (.int .i64)) (h1 : P.underlying f1.type = some (.int .i64)) (h2 : P.underlying f2.type = some (.int .u64)) (h3 : P.underlying f3.type = some (.slice e8)) (h4 : P.underlying e8 = some (.int .u8)) (hc8 : P.cellsOf e8 = 1)
    (hv : Value.okWide P w r b0 t v) (h : DataW.Trod enc P w 0 (fun _ => true) held t v d p) :
    ∃ (a : Option Addr) (n cap : Nat) (F : Nat → Fld), v = .slice a n cap ∧ AFldsAt w v ((List.range n).map F) ∧ (∀ i, i < n → (F i).Ok) ∧ ∀ i, i < n → (F i).bs.length ≤ 50 := by
  obtain ⟨a, n', cap, rfl⟩ := okWide_slice ht hv
  obtain ⟨fuel, hfu⟩ := h
  rcases open_slice ht hfu with ⟨hcs, _⟩ | ⟨a', len', cap', m, k, D, Pl, hcs, hb, hl, hm, hmm, hx, hi⟩
  · simp [Value.cells] at hcs
    obtain ⟨rfl, rfl, rfl⟩ := hcs
    exact ⟨none, 0, 0, fun _ => ⟨0, 0, 0, []⟩, rfl, .inl ⟨⟨none, 0, rfl, fun _ => rfl⟩, rfl⟩, fun i hi => absurd hi (Nat.not_lt_zero _), fun i hi => absurd hi (Nat.not_lt_zero _)⟩
  · simp [Value.cells] at hcs
    obtain ⟨rfl, rfl, rfl⟩ := hcs
    simp only [if_true] at hmm
    subst hmm
    have each : ∀ i, ∃ (f : Fld) (bv : Value), i < n' → (w.cell? ((a'.add (i * 4)).add 0) = some (.int .i64 f.num) ∧ w.cell? ((a'.add (i * 4)).add 1) = some (.int .i64 f.kind) ∧ w.cell? ((a'.add (i * 4)).add 2) = some (.int .u64 (f.n : Int)) ∧ w.cell? ((a'.add (i * 4)).add 3) = some bv) ∧ BsAt w bv f.bs ∧ f.Ok ∧ f.bs.length ≤ 50 := by
      intro i
      by_cases hin : i < n'
      · obtain ⟨cs', g1, g2⟩ := hi i (by omega)
        rw [hC] at g1
        obtain ⟨_, hlen, hcell⟩ := World.cells?_some g1
        obtain ⟨f, bv, rfl, hb1, hb2, hb3⟩ := fld_trod2 hs hC ho hc h0 h1 h2 h3 h4 hc8 g2
        have t0 := hcell 0 (by omega)
        have t1 := hcell 1 (by omega)
        have t2 := hcell 2 (by omega)
        have t3 := hcell 3 (by omega)
        exact ⟨f, bv, fun _ => ⟨⟨t0.symm ▸ rfl, t1.symm ▸ rfl, t2.symm ▸ rfl, t3.symm ▸ rfl⟩, hb1, hb2, hb3⟩⟩
      · exact ⟨⟨0, 0, 0, []⟩, .slice none 0 0, fun h => absurd h hin⟩
    obtain ⟨F, hF⟩ := Classical.skolem.1 each
    obtain ⟨B, all⟩ := Classical.skolem.1 hF
    clear each hF
    refine ⟨some a', n', _, F, rfl, ?_, fun i hin => (all i hin).2.2.1, fun i hin => (all i hin).2.2.2⟩
    by_cases hn : n' = 0
    · subst hn
      exact .inl ⟨⟨_, _, rfl, fun h => by cases h⟩, rfl⟩
    · obtain ⟨b', off, spot⟩ := a'
      have z0 := (all 0 (by omega)).1.1
      have hsp := World.cell?_spot z0
      simp [Addr.add] at hsp
      subst hsp
      rw [add_plain, add_plain] at z0
      refine .inr ⟨b', off, _, by rw [List.length_map, List.length_range], cell_in z0, by rw [List.length_map, List.length_range]; exact hl, fun i f hif => ?_⟩
      rw [List.getElem?_map] at hif
      obtain ⟨j, hj, rfl⟩ := Option.map_eq_some_iff.1 hif
      have hin : i < n' := by have := (List.getElem?_eq_some_iff.1 hj).1; rwa [List.length_range] at this
      rw [List.getElem?_range hin] at hj
      cases hj
      obtain ⟨⟨q0, q1, q2, q3⟩, hb1, _, _⟩ := all i hin
      rw [add_plain, add_plain] at q0 q1 q2 q3
      exact ⟨B i, q0, q1, q2, q3, hb1⟩
end
/-- The first 20 of these fields. -/
theorem take_ok {n : Nat} {F : Nat → Fld} (h1 : ∀ i, i < n → (F i).Ok) (h2 : ∀ i, i < n → (F i).bs.length ≤ 50) :
    (((List.range n).map F).take 20).length ≤ 20 ∧ ∀ f ∈ ((List.range n).map F).take 20, f.Ok ∧ f.bs.length ≤ 50 := by
  refine ⟨by rw [List.length_take]; omega, fun f hf => ?_⟩
  obtain ⟨i, hi, rfl⟩ := List.mem_map.1 (List.mem_of_mem_take hf)
  exact ⟨h1 i (List.mem_range.1 hi), h2 i (List.mem_range.1 hi)⟩
end Go.Proofs.Ytdiciboaehdckaa
