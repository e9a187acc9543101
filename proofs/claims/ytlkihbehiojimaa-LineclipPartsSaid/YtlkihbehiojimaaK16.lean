/-
  Layer 22: rows of rows; the same rows.
-/
import Derived.Test.YtlkihbehiojimaaK14
import Derived.Test.YtlkihbehiojimaaK15
namespace Go.Proofs.Ytlkihbehiojimaa
open Go.RowKit Go.Tab Go.WideShapes

/-- A slice that reads as these rows. -/
def RowsAt (w : World) (v : Value) (ps : List (List (Int × Int))) : Prop := ∃ a cap, v = .slice a ps.length cap ∧ ps.length ≤ cap ∧ (a = none → cap = 0) ∧
  ∀ i q, ps[i]? = some q → ∃ b off u, a = some ⟨b, off, none⟩ ∧ b < w.heap.size ∧ w.cell? ⟨b, off + i, none⟩ = some u ∧ PtsAt w u q
theorem RowsAt.grows {w w' : World} {v : Value} {ps : List (List (Int × Int))} (h : RowsAt w v ps) (hg : Grows w w') : RowsAt w' v ps := by
  obtain ⟨a, cap, hv, h1, h2, h3⟩ := h
  refine ⟨a, cap, hv, h1, h2, fun i q hq => ?_⟩
  obtain ⟨b, off, u, ha, hb, hc, hp⟩ := h3 i q hq
  exact ⟨b, off, u, ha, Nat.lt_of_lt_of_le hb hg.size, by rw [Below.cell hg (p := ⟨b, off + i, none⟩) hb]; exact hc, hp.grows hg⟩

theorem RowsAt.at_ {w : World} {a : Option Addr} {n c i : Nat} {ps : List (List (Int × Int))} {q : List (Int × Int)} (h : RowsAt w (.slice a n c) ps) (hq : ps[i]? = some q) :
    ∃ b off u, a = some ⟨b, off, none⟩ ∧ b < w.heap.size ∧ w.cell? ⟨b, off + i, none⟩ = some u ∧ PtsAt w u q := by
  obtain ⟨_, _, hv, _, _, f⟩ := h
  cases hv
  exact f i q hq

set_option maxHeartbeats 2000000 in
theorem same22_true (u v : Value) (ps : List (List (Int × Int))) (w : World) (hu : RowsAt w u ps) (hv : RowsAt w v ps) (hl : ps.length ≤ 1000) (hr : ∀ q ∈ ps, q.length ≤ 1000) :
    Calls Try.prog 13 #[u, v] w (Ret (.bool true) w) := by
  have HU := Lib.hid hu
  have HV := Lib.hid hv
  obtain ⟨a, c, rfl, hnc, _, _⟩ := hu
  obtain ⟨a2, c2, rfl, hnc2, _, _⟩ := hv
  obtain ⟨n, hln⟩ : ∃ n, n = ps.length := ⟨_, rfl⟩
  rw [← hln] at hl hnc hnc2 HU HV ⊢
  have HN := Lib.hid hln
  have HR := Lib.hid hr
  clear hln hr
  go_enter Try.func13, Try.ntmps13
  go_wp2
  go_loopw [5] (fun i wr => ∃ k : Nat, i = .int .i64 (k : Int) ∧ k ≤ n ∧ Grows w wr) (fun i _ => n + 1 - (intOf i).toNat)
  case atStart => exact ⟨0, rfl, Nat.zero_le _, Grows.refl _⟩
  case round =>
    obtain ⟨k, rfl, hk, hg⟩ := hrel
    have G := Lib.hid hg
    clear hg
    by_cases hkn : k < n
    · have hkp : k < ps.length := by rw [← HN.out]; exact hkn
      have hq := List.getElem?_eq_getElem hkp
      have hqm := HR.out _ (List.getElem_mem hkp)
      obtain ⟨ba, oa, x, rfl, hba, c1, p1⟩ := HU.out.at_ hq
      obtain ⟨bb, ob, y, rfl, hbb, c3, p2⟩ := HV.out.at_ hq
      have CC : Hid (∀ w', Grows wr w' → w'.cell? ⟨ba, oa + k, none⟩ = some x ∧ w'.cell? ⟨bb, ob + k, none⟩ = some y) := Lib.hid fun w' hg => ⟨by rw [Below.cell (G.out.trans hg) (p := ⟨ba, oa + k, none⟩) hba]; exact c1, by rw [Below.cell (G.out.trans hg) (p := ⟨bb, ob + k, none⟩) hbb]; exact c3⟩
      obtain ⟨ax, cx, rfl, _⟩ := p1.shape
      obtain ⟨ay, cy, rfl, _⟩ := p2.shape
      have HS : Hid (∀ w', Grows wr w' → Calls Try.prog 30 #[.slice ax ps[k].length cx, .slice ay ps[k].length cy] w' (Ret (.bool true) w')) := Lib.hid fun w' hg => same_true _ _ ps[k] w' (p1.grows (G.out.trans hg)) (p2.grows (G.out.trans hg)) hqm
      generalize ps[k].length = m at CC HS
      clear c1 c3 p1 p2 hq hqm
      go_wp2_with fail
      refine wp_region_tab 10 (by kernel_rfl) (by kernel_rfl) ?_
      intro w0 hw0 hg1 hg1'
      simp only [List.take_succ_cons, List.take_zero, List.drop_succ_cons, List.drop_zero]
      refine tab_val (.slice (some ⟨ba, oa, none⟩) n c) (fun r w1 hr hg hA => by obtain ⟨q0, -⟩ := hA; have q0e : r (.tmp 0) = .slice (some ⟨ba, oa, none⟩) n c := q0; exact ⟨rfl, by simp [go_sem, q0e]⟩) ?_
      refine tab_val (.int .i64 (k : Int)) (fun r w1 hr hg hA => by obtain ⟨q0, -⟩ := hA; have q0e : r (.tmp 5) = .int .i64 (k : Int) := q0; exact ⟨rfl, by simp [go_sem, q0e]⟩) ?_
      refine tab_val (.pointer (some ⟨ba, oa + k, none⟩)) (fun r w1 hr hg hA => by obtain ⟨⟨_, q0⟩, ⟨_, q1⟩, -⟩ := hA; have q0e : r (.tmp 17) = .slice (some ⟨ba, oa, none⟩) n c := q0; have q1e : r (.tmp 18) = .int .i64 (k : Int) := q1; exact ⟨rfl, by simp [go_sem, q0e, q1e, hkn]⟩) ?_
      refine tab_val (.slice ax m cx) (fun r w1 hr hg hA => by obtain ⟨⟨_, q0⟩, -⟩ := hA; have q0e : r (.tmp 19) = .pointer (some ⟨ba, oa + k, none⟩) := q0; have hc := CC.out _ (hg1.trans hg); exact ⟨rfl, by simp [go_sem, q0e, hc]⟩) ?_
      refine tab_val (.slice (some ⟨bb, ob, none⟩) n c2) (fun r w1 hr hg hA => by obtain ⟨q0, -⟩ := hA; have q0e : r (.tmp 1) = .slice (some ⟨bb, ob, none⟩) n c2 := q0; exact ⟨rfl, by simp [go_sem, q0e]⟩) ?_
      refine tab_val (.int .i64 (k : Int)) (fun r w1 hr hg hA => by obtain ⟨q0, -⟩ := hA; have q0e : r (.tmp 5) = .int .i64 (k : Int) := q0; exact ⟨rfl, by simp [go_sem, q0e]⟩) ?_
      refine tab_val (.pointer (some ⟨bb, ob + k, none⟩)) (fun r w1 hr hg hA => by obtain ⟨⟨_, q0⟩, ⟨_, q1⟩, -⟩ := hA; have q0e : r (.tmp 21) = .slice (some ⟨bb, ob, none⟩) n c2 := q0; have q1e : r (.tmp 22) = .int .i64 (k : Int) := q1; exact ⟨rfl, by simp [go_sem, q0e, q1e, hkn]⟩) ?_
      refine tab_val (.slice ay m cy) (fun r w1 hr hg hA => by obtain ⟨⟨_, q0⟩, -⟩ := hA; have q0e : r (.tmp 23) = .pointer (some ⟨bb, ob + k, none⟩) := q0; have hc := CC.out _ (hg1.trans hg); exact ⟨rfl, by simp [go_sem, q0e, hc]⟩) ?_
      refine tab_callP (v := .bool true) (fun r w1 hr hg hA => by obtain ⟨⟨_, q0⟩, ⟨_, q1⟩, -⟩ := hA; have q0e : r (.tmp 20) = .slice ax m cx := q0; have q1e : r (.tmp 24) = .slice ay m cy := q1; exact ⟨rfl, _, by simp [go_sem, hr.func, q0e, q1e], HS.out w1 (hg1.trans hg)⟩) ?_
      refine tab_val (.bool false) (fun r w1 hr hg hA => by obtain ⟨⟨_, q0⟩, -⟩ := hA; have q0e : r (.tmp 25) = .bool true := q0; exact ⟨rfl, by simp [go_sem, q0e]⟩) ?_
      refine tab_end ?_
      simp only [List.reverse_cons, List.reverse_nil, List.nil_append, List.cons_append, Out, BlockP, forall_eq, forall_const, Act.put, List.setIfInBounds_toArray, List.set_cons_succ, List.set_cons_zero]
      intro wA hgA
      have G3 := Lib.hid (G.out.trans (hg1.trans hgA))
      clear hg1 hgA hg1' hw0
      go_wp2
      exact ⟨⟨k + 1, by simp, by omega, G3.out⟩, by simp only [intOf]; omega⟩
    · go_wp2
      go_ret
      exact ⟨rfl, G.out⟩
end Go.Proofs.Ytlkihbehiojimaa
