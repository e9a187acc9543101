/-
  Layer 8: are fields the document's?
-/
import Derived.Test.YtdiciboaehdckaaD17
namespace Go.Proofs.Ytdiciboaehdckaa
open Go.RowKit Go.Tab Go.WideShapes

/-- Are lists of fields the same? -/
def sameF (fs gs : List Fld) : Bool := decide (fs.map (fun f => (f.num, f.kind, f.n, f.bs)) = gs.map (fun f => (f.num, f.kind, f.n, f.bs)))
theorem fld_ext {f g : Fld} (h : f.num = g.num ∧ f.kind = g.kind ∧ f.n = g.n ∧ f.bs = g.bs) : f = g := by
  cases f; cases g; simp only at h; obtain ⟨rfl, rfl, rfl, rfl⟩ := h; rfl
theorem sameF_iff {fs gs : List Fld} : sameF fs gs = true ↔ fs = gs := by
  unfold sameF
  rw [decide_eq_true_eq]
  constructor
  · intro h
    have hl : fs.length = gs.length := by have := congrArg List.length h; simpa using this
    apply List.ext_getElem hl
    intro i h1 h2
    have := congrArg (fun l => l[i]?) h
    simp only [List.getElem?_map, List.getElem?_eq_getElem h1, List.getElem?_eq_getElem h2, Option.map_some] at this
    injection this with this
    injection this with e1 this
    injection this with e2 this
    injection this with e3 e4
    exact fld_ext ⟨e1, e2, e3, e4⟩
  · rintro rfl; rfl
theorem same_len {fs gs : List Fld} (h : fs.length ≠ gs.length) : sameF fs gs = false := by
  rw [Bool.eq_false_iff]
  intro hh
  exact h (by rw [sameF_iff.1 hh])
theorem same_no {fs gs : List Fld} (hl : fs.length = gs.length) {k : Nat} (hk : k < fs.length) (h : fs[k]? ≠ gs[k]?) : sameF fs gs = false := by
  rw [Bool.eq_false_iff]
  intro hh
  exact h (by rw [sameF_iff.1 hh])
theorem same_yes {fs gs : List Fld} (hl : fs.length = gs.length) (h : ∀ k, k < fs.length → fs[k]? = gs[k]?) : sameF fs gs = true := by
  rw [sameF_iff]
  apply List.ext_getElem hl
  intro i h1 h2
  have := h i h1
  rw [List.getElem?_eq_getElem h1, List.getElem?_eq_getElem h2] at this
  injection this

set_option maxRecDepth 100000 in
set_option maxHeartbeats 4000000 in
theorem lsame_any (v u : Value) (fs gs : List Fld) (w : World) (hp : FldsAt w v fs) (hq : RFldsAt w u gs) (hl : fs.length ≤ 1000) (hl2 : gs.length ≤ 1000) (hx : ∀ f ∈ fs, ∀ x ∈ f.bs, x < 256) (hy : ∀ f ∈ gs, ∀ x ∈ f.bs, x < 256) : Calls Try.prog 14 #[v, u] w (Ret (.bool (sameF fs gs)) w) := by
  have HP := Lib.hid hp
  have HQ := Lib.hid hq
  have HX := Lib.hid hx
  have HY := Lib.hid hy
  obtain ⟨a, c, rfl, hnc, -⟩ := hp.shape
  obtain ⟨a2, d, rfl, hnd, -⟩ := hq.shape
  clear hp hq hx hy
  by_cases hne : fs.length = gs.length
  · have HNL := Lib.hid hne
    rw [← hne] at HQ hnd ⊢
    clear hne hl2
    obtain ⟨n, hn⟩ : ∃ n, n = fs.length := ⟨_, rfl⟩
    rw [← hn] at hl hnc hnd HP HQ ⊢
    have HN := Lib.hid hn
    clear hn
    go_enter Try.func14, Try.ntmps14
    go_wp2
    go_loopw [5] (fun i wr => ∃ k : Nat, k ≤ n ∧ i = .int .i64 (k : Int) ∧ Hid (∀ j, j < k → fs[j]? = gs[j]?) ∧ Hid (Grows w wr)) (fun i _ => n - (intOf i).toNat)
    case atStart => exact ⟨0, Nat.zero_le _, rfl, Lib.hid (fun j hj => absurd hj (Nat.not_lt_zero _)), Lib.hid (Grows.refl _)⟩
    case round =>
      obtain ⟨k, hk, rfl, HE, HG⟩ := hrel
      by_cases hlt : k < n
      · obtain ⟨f, hf⟩ : ∃ f, fs[k]? = some f := ⟨_, List.getElem?_eq_getElem (by rw [← HN.out]; exact hlt)⟩
        obtain ⟨g, hg⟩ : ∃ g, gs[k]? = some g := ⟨_, List.getElem?_eq_getElem (by rw [← HNL.out, ← HN.out]; exact hlt)⟩
        obtain ⟨ba, oa, bv, rfl, hba, b0, b1, b2, b3, hbs⟩ := HP.out.at_ hf
        obtain ⟨bg, og, rfl, hbg, g0, g1, g2, g3⟩ := HQ.out.at_ hg
        have hxf := HX.out f (List.mem_of_getElem? hf)
        have hyg := HY.out g (List.mem_of_getElem? hg)
        have HFG := Lib.hid (show fs[k]? = gs[k]? ↔ f = g by rw [hf, hg]; simp)
        have HOF := Lib.hid (fun w' (hg : Grows w w') => of_any f bv w' (hbs.grows hg))
        obtain ⟨num1, kind1, fn1, bs1⟩ := f
        obtain ⟨num2, kind2, fn2, bs2⟩ := g
        unfold fldV rfV at HOF
        simp only at b0 b1 b2 b3 g0 g1 g2 g3 hxf hyg HOF
        have CF : Hid (∀ w', Grows wr w' → (w'.cell? ⟨ba, oa + k * 4, none⟩ = some (.int .i64 num1) ∧ w'.cell? ⟨ba, oa + k * 4 + 1, none⟩ = some (.int .i64 kind1) ∧ w'.cell? ⟨ba, oa + k * 4 + 2, none⟩ = some (.int .u64 (fn1 : Int)) ∧ w'.cell? ⟨ba, oa + k * 4 + 3, none⟩ = some bv) ∧
            (w'.cell? ⟨bg, og + k * 4, none⟩ = some (.int .i64 num2) ∧ w'.cell? ⟨bg, og + k * 4 + 1, none⟩ = some (.int .i64 kind2) ∧ w'.cell? ⟨bg, og + k * 4 + 2, none⟩ = some (.int .u64 (fn2 : Int)) ∧ w'.cell? ⟨bg, og + k * 4 + 3, none⟩ = some (.string (strN bs2)))) := Lib.hid (fun w' hg => by
          have hh := HG.out.trans hg
          refine ⟨⟨?_, ?_, ?_, ?_⟩, ?_, ?_, ?_, ?_⟩
          · exact (Below.cell hh (p := ⟨ba, oa + k * 4, none⟩) hba).trans b0
          · exact (Below.cell hh (p := ⟨ba, oa + k * 4 + 1, none⟩) hba).trans b1
          · exact (Below.cell hh (p := ⟨ba, oa + k * 4 + 2, none⟩) hba).trans b2
          · exact (Below.cell hh (p := ⟨ba, oa + k * 4 + 3, none⟩) hba).trans b3
          · exact (Below.cell hh (p := ⟨bg, og + k * 4, none⟩) hbg).trans g0
          · exact (Below.cell hh (p := ⟨bg, og + k * 4 + 1, none⟩) hbg).trans g1
          · exact (Below.cell hh (p := ⟨bg, og + k * 4 + 2, none⟩) hbg).trans g2
          · exact (Below.cell hh (p := ⟨bg, og + k * 4 + 3, none⟩) hbg).trans g3)
        have HOF := Lib.hid (fun w' (hg : Grows wr w') => HOF.out w' (HG.out.trans hg))
        have HSTR := Lib.hid (strN_inj hxf hyg)
        have HST : Hid (¬ bs1 = bs2 → ((strN bs1).toList == (strN bs2).toList) = false) := Lib.hid (fun h => by
          rw [beq_eq_false_iff_ne, ByteArray.toList_eq, ByteArray.toList_eq]
          exact fun e => h (HSTR.out.1 (bytes_inj e)))
        obtain ⟨bvs, hbvs⟩ : ∃ x, x = bv := ⟨_, rfl⟩
        obtain ⟨av, cv, hbv⟩ := hbs.shape
        subst hbv
        clear b0 b1 b2 b3 g0 g1 g2 g3 hbs hba hbg hf hg hxf hyg hbvs
        by_cases e1 : num1 = num2
        · by_cases e2 : kind1 = kind2
          · by_cases e3 : fn1 = fn2
            · by_cases e4 : bs1 = bs2
              · subst e1 e2 e3 e4
                have HK := Lib.hid (HFG.out.2 rfl)
                go_wp2_with fail
                refine wp_region_tab 10 (by kernel_rfl) (by kernel_rfl) ?_
                intro w0 hw0 hg1 hg1'
                simp only [List.take_succ_cons, List.take_zero, List.drop_succ_cons, List.drop_zero]
                refine tab_val (.slice (some ⟨ba, oa, none⟩) n c) (fun r w1 hr hg hA => by obtain ⟨q0, -⟩ := hA; have q0e : r (.tmp 0) = .slice (some ⟨ba, oa, none⟩) n c := q0; exact ⟨rfl, by simp [go_sem, q0e]⟩) ?_
                refine tab_val (.int .i64 (k : Int)) (fun r w1 hr hg hA => by obtain ⟨q0, -⟩ := hA; have q0e : r (.tmp 5) = .int .i64 (k : Int) := q0; exact ⟨rfl, by simp [go_sem, q0e]⟩) ?_
                refine tab_val (.pointer (some ⟨ba, oa + k * 4, none⟩)) (fun r w1 hr hg hA => by obtain ⟨⟨_, q0⟩, ⟨_, q1⟩, -⟩ := hA; have q0e : r (.tmp 17) = .slice (some ⟨ba, oa, none⟩) n c := q0; have q1e : r (.tmp 18) = .int .i64 (k : Int) := q1; exact ⟨rfl, by simp [go_sem, q0e, q1e, hlt]⟩) ?_
                refine tab_val (.agg #[.int .i64 num1, .int .i64 kind1, .int .u64 (fn1 : Int), .slice av bs1.length cv]) (fun r w1 hr hg hA => by obtain ⟨⟨_, q0⟩, -⟩ := hA; have q0e : r (.tmp 19) = .pointer (some ⟨ba, oa + k * 4, none⟩) := q0; have hc := CF.out w1 (hg1.trans hg); exact ⟨rfl, by simp [go_sem, q0e, hc]⟩) ?_
                refine tab_call (v := .agg #[.int .i64 num1, .int .i64 kind1, .int .u64 (fn1 : Int), .string (strN bs1)]) (fun w1 hg => HOF.out w1 (hg1.trans hg)) (fun r w1 hr hg hA => by obtain ⟨⟨_, q0⟩, -⟩ := hA; have q0e : r (.tmp 20) = .agg #[.int .i64 num1, .int .i64 kind1, .int .u64 (fn1 : Int), .slice av bs1.length cv] := q0; exact ⟨rfl, by simp [go_sem, hr.func, q0e]⟩) ?_
                refine tab_val (.slice (some ⟨bg, og, none⟩) n d) (fun r w1 hr hg hA => by obtain ⟨q0, -⟩ := hA; have q0e : r (.tmp 1) = .slice (some ⟨bg, og, none⟩) n d := q0; exact ⟨rfl, by simp [go_sem, q0e]⟩) ?_
                refine tab_val (.int .i64 (k : Int)) (fun r w1 hr hg hA => by obtain ⟨q0, -⟩ := hA; have q0e : r (.tmp 5) = .int .i64 (k : Int) := q0; exact ⟨rfl, by simp [go_sem, q0e]⟩) ?_
                refine tab_val (.pointer (some ⟨bg, og + k * 4, none⟩)) (fun r w1 hr hg hA => by obtain ⟨⟨_, q0⟩, ⟨_, q1⟩, -⟩ := hA; have q0e : r (.tmp 22) = .slice (some ⟨bg, og, none⟩) n d := q0; have q1e : r (.tmp 23) = .int .i64 (k : Int) := q1; exact ⟨rfl, by simp [go_sem, q0e, q1e, hlt]⟩) ?_
                refine tab_val (.agg #[.int .i64 num1, .int .i64 kind1, .int .u64 (fn1 : Int), .string (strN bs1)]) (fun r w1 hr hg hA => by obtain ⟨⟨_, q0⟩, -⟩ := hA; have q0e : r (.tmp 24) = .pointer (some ⟨bg, og + k * 4, none⟩) := q0; have hc := CF.out w1 (hg1.trans hg); exact ⟨rfl, by simp [go_sem, q0e, hc]⟩) ?_
                refine tab_val (.bool false) (fun r w1 hr hg hA => by obtain ⟨⟨_, q0⟩, ⟨_, q1⟩, -⟩ := hA; have q0e : r (.tmp 21) = .agg #[.int .i64 num1, .int .i64 kind1, .int .u64 (fn1 : Int), .string (strN bs1)] := q0; have q1e : r (.tmp 25) = .agg #[.int .i64 num1, .int .i64 kind1, .int .u64 (fn1 : Int), .string (strN bs1)] := q1; exact ⟨rfl, by simp [go_sem, q0e, q1e, ]⟩) ?_
                refine tab_end ?_
                simp only [List.reverse_cons, List.reverse_nil, List.nil_append, List.cons_append, Out, BlockP, forall_eq, forall_const, Act.put, List.setIfInBounds_toArray, List.set_cons_succ, List.set_cons_zero]
                intro wA hgA
                have GA := Lib.hid (HG.out.trans (hg1.trans hgA))
                clear hg1 hgA hg1' hw0
                go_wp2
                exact ⟨⟨k + 1, by omega, by simp, Lib.hid (fun j hj => (Nat.lt_succ_iff_lt_or_eq.1 hj).elim (HE.out j) (fun h => by rw [h]; exact HK.out)), GA⟩, by simp only [intOf]; omega⟩
              · subst e1 e2 e3
                have HNE : Hid (fs[k]? ≠ gs[k]?) := Lib.hid (fun h => by have := HFG.out.1 h; injection this; exact e4 ‹_›)
                have hst := HST.out e4
                have h4 := Lib.hid e4
                clear e4 HST HSTR HFG
                generalize strN bs1 = s1 at *
                generalize strN bs2 = s2 at *
                go_wp2_with fail
                refine wp_region_tab 10 (by kernel_rfl) (by kernel_rfl) ?_
                intro w0 hw0 hg1 hg1'
                simp only [List.take_succ_cons, List.take_zero, List.drop_succ_cons, List.drop_zero]
                refine tab_val (.slice (some ⟨ba, oa, none⟩) n c) (fun r w1 hr hg hA => by obtain ⟨q0, -⟩ := hA; have q0e : r (.tmp 0) = .slice (some ⟨ba, oa, none⟩) n c := q0; exact ⟨rfl, by simp [go_sem, q0e]⟩) ?_
                refine tab_val (.int .i64 (k : Int)) (fun r w1 hr hg hA => by obtain ⟨q0, -⟩ := hA; have q0e : r (.tmp 5) = .int .i64 (k : Int) := q0; exact ⟨rfl, by simp [go_sem, q0e]⟩) ?_
                refine tab_val (.pointer (some ⟨ba, oa + k * 4, none⟩)) (fun r w1 hr hg hA => by obtain ⟨⟨_, q0⟩, ⟨_, q1⟩, -⟩ := hA; have q0e : r (.tmp 17) = .slice (some ⟨ba, oa, none⟩) n c := q0; have q1e : r (.tmp 18) = .int .i64 (k : Int) := q1; exact ⟨rfl, by simp [go_sem, q0e, q1e, hlt]⟩) ?_
                refine tab_val (.agg #[.int .i64 num1, .int .i64 kind1, .int .u64 (fn1 : Int), .slice av bs1.length cv]) (fun r w1 hr hg hA => by obtain ⟨⟨_, q0⟩, -⟩ := hA; have q0e : r (.tmp 19) = .pointer (some ⟨ba, oa + k * 4, none⟩) := q0; have hc := CF.out w1 (hg1.trans hg); exact ⟨rfl, by simp [go_sem, q0e, hc]⟩) ?_
                refine tab_call (v := .agg #[.int .i64 num1, .int .i64 kind1, .int .u64 (fn1 : Int), .string s1]) (fun w1 hg => HOF.out w1 (hg1.trans hg)) (fun r w1 hr hg hA => by obtain ⟨⟨_, q0⟩, -⟩ := hA; have q0e : r (.tmp 20) = .agg #[.int .i64 num1, .int .i64 kind1, .int .u64 (fn1 : Int), .slice av bs1.length cv] := q0; exact ⟨rfl, by simp [go_sem, hr.func, q0e]⟩) ?_
                refine tab_val (.slice (some ⟨bg, og, none⟩) n d) (fun r w1 hr hg hA => by obtain ⟨q0, -⟩ := hA; have q0e : r (.tmp 1) = .slice (some ⟨bg, og, none⟩) n d := q0; exact ⟨rfl, by simp [go_sem, q0e]⟩) ?_
                refine tab_val (.int .i64 (k : Int)) (fun r w1 hr hg hA => by obtain ⟨q0, -⟩ := hA; have q0e : r (.tmp 5) = .int .i64 (k : Int) := q0; exact ⟨rfl, by simp [go_sem, q0e]⟩) ?_
                refine tab_val (.pointer (some ⟨bg, og + k * 4, none⟩)) (fun r w1 hr hg hA => by obtain ⟨⟨_, q0⟩, ⟨_, q1⟩, -⟩ := hA; have q0e : r (.tmp 22) = .slice (some ⟨bg, og, none⟩) n d := q0; have q1e : r (.tmp 23) = .int .i64 (k : Int) := q1; exact ⟨rfl, by simp [go_sem, q0e, q1e, hlt]⟩) ?_
                refine tab_val (.agg #[.int .i64 num1, .int .i64 kind1, .int .u64 (fn1 : Int), .string s2]) (fun r w1 hr hg hA => by obtain ⟨⟨_, q0⟩, -⟩ := hA; have q0e : r (.tmp 24) = .pointer (some ⟨bg, og + k * 4, none⟩) := q0; have hc := CF.out w1 (hg1.trans hg); exact ⟨rfl, by simp [go_sem, q0e, hc]⟩) ?_
                refine tab_val (.bool true) (fun r w1 hr hg hA => by obtain ⟨⟨_, q0⟩, ⟨_, q1⟩, -⟩ := hA; have q0e : r (.tmp 21) = .agg #[.int .i64 num1, .int .i64 kind1, .int .u64 (fn1 : Int), .string s1] := q0; have q1e : r (.tmp 25) = .agg #[.int .i64 num1, .int .i64 kind1, .int .u64 (fn1 : Int), .string s2] := q1; exact ⟨rfl, by simp [go_sem, q0e, q1e, hst]⟩) ?_
                refine tab_end ?_
                simp only [List.reverse_cons, List.reverse_nil, List.nil_append, List.cons_append, Out, BlockP, forall_eq, forall_const, Act.put, List.setIfInBounds_toArray, List.set_cons_succ, List.set_cons_zero]
                intro wA hgA
                have GA := Lib.hid (HG.out.trans (hg1.trans hgA))
                clear hg1 hgA hg1' hw0
                go_wp2
                go_ret
                exact ⟨ret_bool (same_no HNL.out (k := k) (by rw [← HN.out]; exact hlt) HNE.out).symm, GA.out⟩
            · have HNE : Hid (fs[k]? ≠ gs[k]?) := Lib.hid (fun h => by have := HFG.out.1 h; injection this; exact e3 ‹_›)
              subst e1 e2
              go_wp2_with fail
              refine wp_region_tab 10 (by kernel_rfl) (by kernel_rfl) ?_
              intro w0 hw0 hg1 hg1'
              simp only [List.take_succ_cons, List.take_zero, List.drop_succ_cons, List.drop_zero]
              refine tab_val (.slice (some ⟨ba, oa, none⟩) n c) (fun r w1 hr hg hA => by obtain ⟨q0, -⟩ := hA; have q0e : r (.tmp 0) = .slice (some ⟨ba, oa, none⟩) n c := q0; exact ⟨rfl, by simp [go_sem, q0e]⟩) ?_
              refine tab_val (.int .i64 (k : Int)) (fun r w1 hr hg hA => by obtain ⟨q0, -⟩ := hA; have q0e : r (.tmp 5) = .int .i64 (k : Int) := q0; exact ⟨rfl, by simp [go_sem, q0e]⟩) ?_
              refine tab_val (.pointer (some ⟨ba, oa + k * 4, none⟩)) (fun r w1 hr hg hA => by obtain ⟨⟨_, q0⟩, ⟨_, q1⟩, -⟩ := hA; have q0e : r (.tmp 17) = .slice (some ⟨ba, oa, none⟩) n c := q0; have q1e : r (.tmp 18) = .int .i64 (k : Int) := q1; exact ⟨rfl, by simp [go_sem, q0e, q1e, hlt]⟩) ?_
              refine tab_val (.agg #[.int .i64 num1, .int .i64 kind1, .int .u64 (fn1 : Int), .slice av bs1.length cv]) (fun r w1 hr hg hA => by obtain ⟨⟨_, q0⟩, -⟩ := hA; have q0e : r (.tmp 19) = .pointer (some ⟨ba, oa + k * 4, none⟩) := q0; have hc := CF.out w1 (hg1.trans hg); exact ⟨rfl, by simp [go_sem, q0e, hc]⟩) ?_
              refine tab_call (v := .agg #[.int .i64 num1, .int .i64 kind1, .int .u64 (fn1 : Int), .string (strN bs1)]) (fun w1 hg => HOF.out w1 (hg1.trans hg)) (fun r w1 hr hg hA => by obtain ⟨⟨_, q0⟩, -⟩ := hA; have q0e : r (.tmp 20) = .agg #[.int .i64 num1, .int .i64 kind1, .int .u64 (fn1 : Int), .slice av bs1.length cv] := q0; exact ⟨rfl, by simp [go_sem, hr.func, q0e]⟩) ?_
              refine tab_val (.slice (some ⟨bg, og, none⟩) n d) (fun r w1 hr hg hA => by obtain ⟨q0, -⟩ := hA; have q0e : r (.tmp 1) = .slice (some ⟨bg, og, none⟩) n d := q0; exact ⟨rfl, by simp [go_sem, q0e]⟩) ?_
              refine tab_val (.int .i64 (k : Int)) (fun r w1 hr hg hA => by obtain ⟨q0, -⟩ := hA; have q0e : r (.tmp 5) = .int .i64 (k : Int) := q0; exact ⟨rfl, by simp [go_sem, q0e]⟩) ?_
              refine tab_val (.pointer (some ⟨bg, og + k * 4, none⟩)) (fun r w1 hr hg hA => by obtain ⟨⟨_, q0⟩, ⟨_, q1⟩, -⟩ := hA; have q0e : r (.tmp 22) = .slice (some ⟨bg, og, none⟩) n d := q0; have q1e : r (.tmp 23) = .int .i64 (k : Int) := q1; exact ⟨rfl, by simp [go_sem, q0e, q1e, hlt]⟩) ?_
              refine tab_val (.agg #[.int .i64 num1, .int .i64 kind1, .int .u64 (fn2 : Int), .string (strN bs2)]) (fun r w1 hr hg hA => by obtain ⟨⟨_, q0⟩, -⟩ := hA; have q0e : r (.tmp 24) = .pointer (some ⟨bg, og + k * 4, none⟩) := q0; have hc := CF.out w1 (hg1.trans hg); exact ⟨rfl, by simp [go_sem, q0e, hc]⟩) ?_
              refine tab_val (.bool true) (fun r w1 hr hg hA => by obtain ⟨⟨_, q0⟩, ⟨_, q1⟩, -⟩ := hA; have q0e : r (.tmp 21) = .agg #[.int .i64 num1, .int .i64 kind1, .int .u64 (fn1 : Int), .string (strN bs1)] := q0; have q1e : r (.tmp 25) = .agg #[.int .i64 num1, .int .i64 kind1, .int .u64 (fn2 : Int), .string (strN bs2)] := q1; exact ⟨rfl, by simp [go_sem, q0e, q1e, Int.ofNat_inj, e3]⟩) ?_
              refine tab_end ?_
              simp only [List.reverse_cons, List.reverse_nil, List.nil_append, List.cons_append, Out, BlockP, forall_eq, forall_const, Act.put, List.setIfInBounds_toArray, List.set_cons_succ, List.set_cons_zero]
              intro wA hgA
              have GA := Lib.hid (HG.out.trans (hg1.trans hgA))
              clear hg1 hgA hg1' hw0
              go_wp2
              go_ret
              exact ⟨ret_bool (same_no HNL.out (k := k) (by rw [← HN.out]; exact hlt) HNE.out).symm, GA.out⟩
          · have HNE : Hid (fs[k]? ≠ gs[k]?) := Lib.hid (fun h => by have := HFG.out.1 h; injection this; exact e2 ‹_›)
            subst e1
            go_wp2_with fail
            refine wp_region_tab 10 (by kernel_rfl) (by kernel_rfl) ?_
            intro w0 hw0 hg1 hg1'
            simp only [List.take_succ_cons, List.take_zero, List.drop_succ_cons, List.drop_zero]
            refine tab_val (.slice (some ⟨ba, oa, none⟩) n c) (fun r w1 hr hg hA => by obtain ⟨q0, -⟩ := hA; have q0e : r (.tmp 0) = .slice (some ⟨ba, oa, none⟩) n c := q0; exact ⟨rfl, by simp [go_sem, q0e]⟩) ?_
            refine tab_val (.int .i64 (k : Int)) (fun r w1 hr hg hA => by obtain ⟨q0, -⟩ := hA; have q0e : r (.tmp 5) = .int .i64 (k : Int) := q0; exact ⟨rfl, by simp [go_sem, q0e]⟩) ?_
            refine tab_val (.pointer (some ⟨ba, oa + k * 4, none⟩)) (fun r w1 hr hg hA => by obtain ⟨⟨_, q0⟩, ⟨_, q1⟩, -⟩ := hA; have q0e : r (.tmp 17) = .slice (some ⟨ba, oa, none⟩) n c := q0; have q1e : r (.tmp 18) = .int .i64 (k : Int) := q1; exact ⟨rfl, by simp [go_sem, q0e, q1e, hlt]⟩) ?_
            refine tab_val (.agg #[.int .i64 num1, .int .i64 kind1, .int .u64 (fn1 : Int), .slice av bs1.length cv]) (fun r w1 hr hg hA => by obtain ⟨⟨_, q0⟩, -⟩ := hA; have q0e : r (.tmp 19) = .pointer (some ⟨ba, oa + k * 4, none⟩) := q0; have hc := CF.out w1 (hg1.trans hg); exact ⟨rfl, by simp [go_sem, q0e, hc]⟩) ?_
            refine tab_call (v := .agg #[.int .i64 num1, .int .i64 kind1, .int .u64 (fn1 : Int), .string (strN bs1)]) (fun w1 hg => HOF.out w1 (hg1.trans hg)) (fun r w1 hr hg hA => by obtain ⟨⟨_, q0⟩, -⟩ := hA; have q0e : r (.tmp 20) = .agg #[.int .i64 num1, .int .i64 kind1, .int .u64 (fn1 : Int), .slice av bs1.length cv] := q0; exact ⟨rfl, by simp [go_sem, hr.func, q0e]⟩) ?_
            refine tab_val (.slice (some ⟨bg, og, none⟩) n d) (fun r w1 hr hg hA => by obtain ⟨q0, -⟩ := hA; have q0e : r (.tmp 1) = .slice (some ⟨bg, og, none⟩) n d := q0; exact ⟨rfl, by simp [go_sem, q0e]⟩) ?_
            refine tab_val (.int .i64 (k : Int)) (fun r w1 hr hg hA => by obtain ⟨q0, -⟩ := hA; have q0e : r (.tmp 5) = .int .i64 (k : Int) := q0; exact ⟨rfl, by simp [go_sem, q0e]⟩) ?_
            refine tab_val (.pointer (some ⟨bg, og + k * 4, none⟩)) (fun r w1 hr hg hA => by obtain ⟨⟨_, q0⟩, ⟨_, q1⟩, -⟩ := hA; have q0e : r (.tmp 22) = .slice (some ⟨bg, og, none⟩) n d := q0; have q1e : r (.tmp 23) = .int .i64 (k : Int) := q1; exact ⟨rfl, by simp [go_sem, q0e, q1e, hlt]⟩) ?_
            refine tab_val (.agg #[.int .i64 num1, .int .i64 kind2, .int .u64 (fn2 : Int), .string (strN bs2)]) (fun r w1 hr hg hA => by obtain ⟨⟨_, q0⟩, -⟩ := hA; have q0e : r (.tmp 24) = .pointer (some ⟨bg, og + k * 4, none⟩) := q0; have hc := CF.out w1 (hg1.trans hg); exact ⟨rfl, by simp [go_sem, q0e, hc]⟩) ?_
            refine tab_val (.bool true) (fun r w1 hr hg hA => by obtain ⟨⟨_, q0⟩, ⟨_, q1⟩, -⟩ := hA; have q0e : r (.tmp 21) = .agg #[.int .i64 num1, .int .i64 kind1, .int .u64 (fn1 : Int), .string (strN bs1)] := q0; have q1e : r (.tmp 25) = .agg #[.int .i64 num1, .int .i64 kind2, .int .u64 (fn2 : Int), .string (strN bs2)] := q1; exact ⟨rfl, by simp [go_sem, q0e, q1e, e2]⟩) ?_
            refine tab_end ?_
            simp only [List.reverse_cons, List.reverse_nil, List.nil_append, List.cons_append, Out, BlockP, forall_eq, forall_const, Act.put, List.setIfInBounds_toArray, List.set_cons_succ, List.set_cons_zero]
            intro wA hgA
            have GA := Lib.hid (HG.out.trans (hg1.trans hgA))
            clear hg1 hgA hg1' hw0
            go_wp2
            go_ret
            exact ⟨ret_bool (same_no HNL.out (k := k) (by rw [← HN.out]; exact hlt) HNE.out).symm, GA.out⟩
        · have HNE : Hid (fs[k]? ≠ gs[k]?) := Lib.hid (fun h => by have := HFG.out.1 h; injection this; exact e1 ‹_›)
          go_wp2_with fail
          refine wp_region_tab 10 (by kernel_rfl) (by kernel_rfl) ?_
          intro w0 hw0 hg1 hg1'
          simp only [List.take_succ_cons, List.take_zero, List.drop_succ_cons, List.drop_zero]
          refine tab_val (.slice (some ⟨ba, oa, none⟩) n c) (fun r w1 hr hg hA => by obtain ⟨q0, -⟩ := hA; have q0e : r (.tmp 0) = .slice (some ⟨ba, oa, none⟩) n c := q0; exact ⟨rfl, by simp [go_sem, q0e]⟩) ?_
          refine tab_val (.int .i64 (k : Int)) (fun r w1 hr hg hA => by obtain ⟨q0, -⟩ := hA; have q0e : r (.tmp 5) = .int .i64 (k : Int) := q0; exact ⟨rfl, by simp [go_sem, q0e]⟩) ?_
          refine tab_val (.pointer (some ⟨ba, oa + k * 4, none⟩)) (fun r w1 hr hg hA => by obtain ⟨⟨_, q0⟩, ⟨_, q1⟩, -⟩ := hA; have q0e : r (.tmp 17) = .slice (some ⟨ba, oa, none⟩) n c := q0; have q1e : r (.tmp 18) = .int .i64 (k : Int) := q1; exact ⟨rfl, by simp [go_sem, q0e, q1e, hlt]⟩) ?_
          refine tab_val (.agg #[.int .i64 num1, .int .i64 kind1, .int .u64 (fn1 : Int), .slice av bs1.length cv]) (fun r w1 hr hg hA => by obtain ⟨⟨_, q0⟩, -⟩ := hA; have q0e : r (.tmp 19) = .pointer (some ⟨ba, oa + k * 4, none⟩) := q0; have hc := CF.out w1 (hg1.trans hg); exact ⟨rfl, by simp [go_sem, q0e, hc]⟩) ?_
          refine tab_call (v := .agg #[.int .i64 num1, .int .i64 kind1, .int .u64 (fn1 : Int), .string (strN bs1)]) (fun w1 hg => HOF.out w1 (hg1.trans hg)) (fun r w1 hr hg hA => by obtain ⟨⟨_, q0⟩, -⟩ := hA; have q0e : r (.tmp 20) = .agg #[.int .i64 num1, .int .i64 kind1, .int .u64 (fn1 : Int), .slice av bs1.length cv] := q0; exact ⟨rfl, by simp [go_sem, hr.func, q0e]⟩) ?_
          refine tab_val (.slice (some ⟨bg, og, none⟩) n d) (fun r w1 hr hg hA => by obtain ⟨q0, -⟩ := hA; have q0e : r (.tmp 1) = .slice (some ⟨bg, og, none⟩) n d := q0; exact ⟨rfl, by simp [go_sem, q0e]⟩) ?_
          refine tab_val (.int .i64 (k : Int)) (fun r w1 hr hg hA => by obtain ⟨q0, -⟩ := hA; have q0e : r (.tmp 5) = .int .i64 (k : Int) := q0; exact ⟨rfl, by simp [go_sem, q0e]⟩) ?_
          refine tab_val (.pointer (some ⟨bg, og + k * 4, none⟩)) (fun r w1 hr hg hA => by obtain ⟨⟨_, q0⟩, ⟨_, q1⟩, -⟩ := hA; have q0e : r (.tmp 22) = .slice (some ⟨bg, og, none⟩) n d := q0; have q1e : r (.tmp 23) = .int .i64 (k : Int) := q1; exact ⟨rfl, by simp [go_sem, q0e, q1e, hlt]⟩) ?_
          refine tab_val (.agg #[.int .i64 num2, .int .i64 kind2, .int .u64 (fn2 : Int), .string (strN bs2)]) (fun r w1 hr hg hA => by obtain ⟨⟨_, q0⟩, -⟩ := hA; have q0e : r (.tmp 24) = .pointer (some ⟨bg, og + k * 4, none⟩) := q0; have hc := CF.out w1 (hg1.trans hg); exact ⟨rfl, by simp [go_sem, q0e, hc]⟩) ?_
          refine tab_val (.bool true) (fun r w1 hr hg hA => by obtain ⟨⟨_, q0⟩, ⟨_, q1⟩, -⟩ := hA; have q0e : r (.tmp 21) = .agg #[.int .i64 num1, .int .i64 kind1, .int .u64 (fn1 : Int), .string (strN bs1)] := q0; have q1e : r (.tmp 25) = .agg #[.int .i64 num2, .int .i64 kind2, .int .u64 (fn2 : Int), .string (strN bs2)] := q1; exact ⟨rfl, by simp [go_sem, q0e, q1e, e1]⟩) ?_
          refine tab_end ?_
          simp only [List.reverse_cons, List.reverse_nil, List.nil_append, List.cons_append, Out, BlockP, forall_eq, forall_const, Act.put, List.setIfInBounds_toArray, List.set_cons_succ, List.set_cons_zero]
          intro wA hgA
          have GA := Lib.hid (HG.out.trans (hg1.trans hgA))
          clear hg1 hgA hg1' hw0
          go_wp2
          go_ret
          exact ⟨ret_bool (same_no HNL.out (k := k) (by rw [← HN.out]; exact hlt) HNE.out).symm, GA.out⟩
      · obtain rfl : k = n := by omega
        have HD := Lib.hid (same_yes HNL.out (fun j hj => HE.out j (by rw [HN.out]; exact hj)))
        go_wp2
        go_ret
        exact ⟨ret_bool HD.out.symm, HG.out⟩
  · have HS := Lib.hid (same_len hne)
    have hb : ((fs.length : Int) != (gs.length : Int)) = true := by rw [bne_iff_ne]; omega
    clear hne
    go_enter Try.func14, Try.ntmps14
    go_wp2
    go_ret
    exact ⟨ret_bool HS.out.symm, Grows.refl _⟩
end Go.Proofs.Ytdiciboaehdckaa
