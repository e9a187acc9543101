/-
  Layer 8: proto.Same.
-/
import Derived.Test.YtdiciboaehdckaaD18
namespace Go.Proofs.Ytdiciboaehdckaa
open Go.RowKit Go.Tab Go.WideShapes

set_option maxRecDepth 100000 in
set_option maxHeartbeats 4000000 in
theorem psame_any (v u : Value) (fs gs : List Fld) (w : World) (hp : FldsAt w v fs) (hq : FldsAt w u gs) (hl : fs.length ≤ 1000) (hl2 : gs.length ≤ 1000) (hx : ∀ f ∈ fs, ∀ x ∈ f.bs, x < 256) (hy : ∀ f ∈ gs, ∀ x ∈ f.bs, x < 256) : Calls Try.prog 15 #[v, u] w (Ret (.bool (sameF fs gs)) w) := by
  have HP := Lib.hid hp
  have HQ := Lib.hid hq
  have HX := Lib.hid hx
  have HY := Lib.hid hy
  obtain ⟨a, c, rfl, hnc, -⟩ := hp.shape
  obtain ⟨a2, d, rfl, hnd, -⟩ := hq.shape
  clear hp hq hx hy
  by_cases hne : fs.length = gs.length
  · have HNL := Lib.hid hne
    rw [← hne] at HQ hnd ⊢
    clear hne hl2
    obtain ⟨n, hn⟩ : ∃ n, n = fs.length := ⟨_, rfl⟩
    rw [← hn] at hl hnc hnd HP HQ ⊢
    have HN := Lib.hid hn
    clear hn
    go_enter Try.func15, Try.ntmps15
    go_wp2
    go_loopw [15] (fun i wr => ∃ k : Nat, k ≤ n ∧ i = .int .i64 (k : Int) ∧ Hid (∀ j, j < k → fs[j]? = gs[j]?) ∧ Hid (Grows w wr)) (fun i _ => n - (intOf i).toNat)
    case atStart => exact ⟨0, Nat.zero_le _, rfl, Lib.hid (fun j hj => absurd hj (Nat.not_lt_zero _)), Lib.hid (Grows.refl _)⟩
    case round =>
      obtain ⟨k, hk, rfl, HE, HG⟩ := hrel
      by_cases hlt : k < n
      · obtain ⟨f, hf⟩ : ∃ f, fs[k]? = some f := ⟨_, List.getElem?_eq_getElem (by rw [← HN.out]; exact hlt)⟩
        obtain ⟨g, hg⟩ : ∃ g, gs[k]? = some g := ⟨_, List.getElem?_eq_getElem (by rw [← HNL.out, ← HN.out]; exact hlt)⟩
        obtain ⟨ba, oa, bv, rfl, hba, b0, b1, b2, b3, hbs⟩ := HP.out.at_ hf
        obtain ⟨bg, og, bu, rfl, hbg, g0, g1, g2, g3, hbu⟩ := HQ.out.at_ hg
        have hxf := HX.out f (List.mem_of_getElem? hf)
        have hyg := HY.out g (List.mem_of_getElem? hg)
        have HFG := Lib.hid (show fs[k]? = gs[k]? ↔ f = g by rw [hf, hg]; simp)
        have HEQ := Lib.hid (fun w' (hg : Grows w w') (b : Bool) (hb : decide (f.bs = g.bs) = b) => show Calls Try.prog 29 #[bv, bu] w' (Ret (.bool b) w') by
          rw [← hb]; exact equal_any bv bu f.bs g.bs w' (hbs.grows hg) (hbu.grows hg) hxf hyg)
        obtain ⟨num1, kind1, fn1, bs1⟩ := f
        obtain ⟨num2, kind2, fn2, bs2⟩ := g
        simp only at b0 b1 b2 b3 g0 g1 g2 g3 HEQ hbs hbu
        obtain ⟨av, cv, hsv⟩ := hbs.shape
        obtain ⟨au, cu, hsu⟩ := hbu.shape
        subst hsv hsu
        obtain ⟨l1, hl1⟩ : ∃ x, x = bs1.length := ⟨_, rfl⟩
        obtain ⟨l2, hl2⟩ : ∃ x, x = bs2.length := ⟨_, rfl⟩
        rw [← hl1] at b3 HEQ
        rw [← hl2] at g3 HEQ
        have c0 := (Below.cell HG.out (p := ⟨ba, oa + k * 4, none⟩) hba).trans b0
        have c1 := (Below.cell HG.out (p := ⟨ba, oa + k * 4 + 1, none⟩) hba).trans b1
        have c2 := (Below.cell HG.out (p := ⟨ba, oa + k * 4 + 2, none⟩) hba).trans b2
        have c3 := (Below.cell HG.out (p := ⟨ba, oa + k * 4 + 3, none⟩) hba).trans b3
        have HG1 := Lib.hid (HG.out.al (.cells #[.int .i64 num1, .int .i64 kind1, .int .u64 (fn1 : Int), .slice av l1 cv] 41))
        have d0 := (Below.cell HG1.out (p := ⟨bg, og + k * 4, none⟩) hbg).trans g0
        have d1 := (Below.cell HG1.out (p := ⟨bg, og + k * 4 + 1, none⟩) hbg).trans g1
        have d2 := (Below.cell HG1.out (p := ⟨bg, og + k * 4 + 2, none⟩) hbg).trans g2
        have d3 := (Below.cell HG1.out (p := ⟨bg, og + k * 4 + 3, none⟩) hbg).trans g3
        have GA := Lib.hid (HG1.out.al (.cells #[.int .i64 num2, .int .i64 kind2, .int .u64 (fn2 : Int), .slice au l2 cu] 41))
        clear hl1 hl2 b0 b1 b2 b3 g0 g1 g2 g3 hbs hbu hba hbg hf hg hxf hyg
        by_cases e1 : num1 = num2
        · by_cases e2 : kind1 = kind2
          · by_cases e3 : fn1 = fn2
            · by_cases e4 : bs1 = bs2
              · subst e1 e2 e3 e4
                have HK := Lib.hid (HFG.out.2 rfl)
                clear HFG
                go_wp2_with fail
                refine (HEQ.out _ GA.out true (by simp)).mono ?_
                rintro _ w1 ⟨rfl, hg⟩
                have GB := Lib.hid (GA.out.trans hg)
                clear hg
                go_wp2
                exact ⟨⟨k + 1, by omega, by simp, Lib.hid (fun j hj => (Nat.lt_succ_iff_lt_or_eq.1 hj).elim (HE.out j) (fun h => by rw [h]; exact HK.out)), GB⟩, by simp only [intOf]; omega⟩
              · have HNE : Hid (fs[k]? ≠ gs[k]?) := Lib.hid (fun h => by have := HFG.out.1 h; injection this; exact e4 ‹_›)
                have HQF := Lib.hid (decide_eq_false e4)
                subst e1 e2 e3
                clear e4 HFG
                go_wp2_with fail
                refine (HEQ.out _ GA.out false HQF.out).mono ?_
                rintro _ w1 ⟨rfl, hg⟩
                have GB := Lib.hid (GA.out.trans hg)
                clear hg
                go_wp2
                go_ret
                exact ⟨ret_bool (same_no HNL.out (k := k) (by rw [← HN.out]; exact hlt) HNE.out).symm, GB.out⟩
            · have HNE : Hid (fs[k]? ≠ gs[k]?) := Lib.hid (fun h => by have := HFG.out.1 h; injection this; exact e3 ‹_›)
              have b3 : ((fn1 : Int) != (fn2 : Int)) = true := by rw [bne_iff_ne]; omega
              subst e1 e2
              clear e3 HFG
              go_wp2
              go_ret
              exact ⟨ret_bool (same_no HNL.out (k := k) (by rw [← HN.out]; exact hlt) HNE.out).symm, GA.out⟩
          · have HNE : Hid (fs[k]? ≠ gs[k]?) := Lib.hid (fun h => by have := HFG.out.1 h; injection this; exact e2 ‹_›)
            have b2 : (kind1 != kind2) = true := by rw [bne_iff_ne]; exact e2
            subst e1
            clear e2 HFG
            go_wp2
            go_ret
            exact ⟨ret_bool (same_no HNL.out (k := k) (by rw [← HN.out]; exact hlt) HNE.out).symm, GA.out⟩
        · have HNE : Hid (fs[k]? ≠ gs[k]?) := Lib.hid (fun h => by have := HFG.out.1 h; injection this; exact e1 ‹_›)
          have b1 : (num1 != num2) = true := by rw [bne_iff_ne]; exact e1
          clear e1 HFG
          go_wp2
          go_ret
          exact ⟨ret_bool (same_no HNL.out (k := k) (by rw [← HN.out]; exact hlt) HNE.out).symm, GA.out⟩
      · obtain rfl : k = n := by omega
        have HD := Lib.hid (same_yes HNL.out (fun j hj => HE.out j (by rw [HN.out]; exact hj)))
        go_wp2
        go_ret
        exact ⟨ret_bool HD.out.symm, HG.out⟩
  · have HS := Lib.hid (same_len hne)
    have hb : ((fs.length : Int) != (gs.length : Int)) = true := by rw [bne_iff_ne]; omega
    clear hne
    go_enter Try.func15, Try.ntmps15
    go_wp2
    go_ret
    exact ⟨ret_bool HS.out.symm, Grows.refl _⟩
end Go.Proofs.Ytdiciboaehdckaa
