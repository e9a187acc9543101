/-
  Layer 2: the document's cuts.
-/
import Derived.Test.YtlgplhanhnjeiaaM15
namespace Go.Proofs.Ytlgplhanhnjeiaa
open Go.RowKit Go.Tab Go.Sort

theorem may_sw {x y : Int} (h : mayB x y = true) : mayB y x = true := by rw [mayB_iff] at *; omega
theorem own_two {w : World} {b base : Nat} {T : TypeId} {x y : Value} (h : w.heap[b]? = some (.cells #[x, y] T (0, 0))) (hb : base ≤ b) (h1 : x.oneCell' = true) (h2 : y.oneCell' = true) : w.ownsRow base T 2 (.slice (some ⟨b, 0, none⟩) 1 1) 1 [x, y] :=
  ⟨rfl, .inr ⟨b, 1, #[x, y], rfl, hb, h, Nat.le_refl _, by unfold maxLen; omega, rfl, rfl⟩⟩
theorem cell_lt {w : World} {b o : Nat} {v : Value} (h : w.cell? ⟨b, o, none⟩ = some v) : b < w.heap.size := by
  rcases Nat.lt_or_ge b w.heap.size with h1 | h1
  · exact h1
  · simp [World.cell?, Array.getElem?_eq_none h1] at h
theorem neIf2 {w : World} {x y u v : Int} : (if x = u then if y = v then Result.ok (Next.value (Value.bool false)) w else Result.ok (Next.value (Value.bool true)) w else Result.ok (Next.value (Value.bool true)) w) = Result.ok (Next.value (Value.bool (!eqP x y u v))) w := by
  unfold eqP
  by_cases h1 : x = u <;> by_cases h2 : y = v <;> simp [h1, h2]
theorem infoRP : (Try.prog.info? 28).map (fun i => (i.zero, i.size, i.bytes)) = some (some (.agg #[.int .i64 0, .int .i64 0]), 2, 16) := by kernel_rfl

set_option maxRecDepth 100000 in
set_option maxHeartbeats 8000000 in
theorem rCuts_is {a b : Pt} {xs ys : List Int} {L : List Pt} (hL : IsCuts a b xs ys L) (ma : mayP a = true) (mb : mayP b = true) (v u : Value) (w : World) (hx : IntsAt w v xs) (hy : IntsAt w u ys) (hlx : xs.length ≤ 20) (hly : ys.length ≤ 20) :
    Calls Try.prog 19 #[pp a, pp b, v, u] w (fun e w' => ∃ o, e = .returned o ∧ PtsAt w' o L ∧ Grows w w') := by
  obtain ⟨i0, hi0, hz0, hz1, hz2⟩ := info_parts infoRP
  obtain ⟨av, cv, rfl, hnv, -⟩ := hx.shape
  obtain ⟨au, cu, rfl, hnu, -⟩ := hy.shape
  have HXS := Lib.hid hx
  have HYS := Lib.hid hy
  have HL := Lib.hid hL
  obtain ⟨nx, hnx⟩ : ∃ n, n = xs.length := ⟨_, rfl⟩
  obtain ⟨ny, hny⟩ : ∃ n, n = ys.length := ⟨_, rfl⟩
  rw [← hnx] at hlx hnv HXS ⊢
  rw [← hny] at hly hnu HYS ⊢
  have HNX := Lib.hid hnx
  have HNY := Lib.hid hny
  have HMM : Hid (mayB a.1 a.2 = true ∧ mayB b.1 b.2 = true) := Lib.hid ⟨ma, mb⟩
  clear hx hy hnx hny hL ma mb
  obtain ⟨ax, ay⟩ := a
  obtain ⟨bx, b_y⟩ := b
  unfold pp
  simp only at HMM ⊢
  go_enter Try.func19, Try.ntmps19
  go_wp2_with fail
  have B3 := Lib.hid ((Grows.alloc _ (.cells #[.int .i64 bx, .int .i64 b_y] 28)).block (heap_new w (.cells #[.int .i64 ax, .int .i64 ay] 28) _ rfl))
  have B4 := Lib.hid (heap_new (w.alloc (.cells #[.int .i64 ax, .int .i64 ay] 28)) (.cells #[.int .i64 bx, .int .i64 b_y] 28) (w.heap.size + 1) (by simp))
  have G := Lib.hid (((Grows.refl w).al (.cells #[.int .i64 ax, .int .i64 ay] 28)).al (.cells #[.int .i64 bx, .int .i64 b_y] 28))
  generalize (w.alloc (.cells #[.int .i64 ax, .int .i64 ay] 28)).alloc (.cells #[.int .i64 bx, .int .i64 b_y] 28) = wq at B3 B4 G ⊢
  have HF : Hid (∀ w', Grows wq w' → _) := Lib.hid (fun w' (hg : Grows wq w') => And.intro (cells2 (hg.block B3.out)) (cells2 (hg.block B4.out)))
  refine (may_any _ _ _).mono ?_
  rintro _ w2 ⟨rfl, hg⟩
  rw [HMM.out.1]
  have KG := Lib.hid hg
  obtain ⟨⟨a0, a1, -, -⟩, ⟨b0, b1, -, -⟩⟩ := HF.out w2 hg
  clear hg
  go_wp2_with fail
  refine (may_any _ _ _).mono ?_
  rintro _ w3 ⟨rfl, hg⟩
  rw [HMM.out.2]
  have KG := Lib.hid (KG.out.trans hg)
  clear hg a0 a1 b0 b1
  go_wp2
  go_loopw [9, 10] (fun o' i wr => ∃ (k : Nat) (o : Value) (s : List Cut), k ≤ nx ∧ o = o' ∧ i = .int .i64 (k : Int) ∧ Hid (s.Perm ((xs.take k).filterMap (cutX (ax, ay) (bx, b_y)))) ∧ Hid (ByFrac s) ∧ Hid (wr.ownsRow 0 67 4 o s.length (ccells s)) ∧ Hid (Grows wq wr)) (fun _ i _ => nx - (intOf i).toNat)
  case atStart => exact ⟨0, _, [], Nat.zero_le _, rfl, rfl, Lib.hid (List.Perm.refl _), Lib.hid List.Pairwise.nil, Lib.hid (World.ownsRow_nil _ _ _ _), KG⟩
  case round =>
    obtain ⟨k, o, s, hk, rfl, rfl, HP, HS, HO, HG⟩ := hrel
    by_cases hlt : k < nx
    · have hltz : (k : Int) < (nx : Int) := by omega
      obtain ⟨ba, oa, rfl, hba, hc0⟩ := (HXS.out.grows (G.out.trans HG.out)).at_ (i := k) (by rw [← HNX.out]; exact hlt)
      have HSN := Lib.hid (take_snocI (l := xs) (k := k) (by rw [← HNX.out]; exact hlt))
      have HLS : Hid (s.length ≤ 40) := Lib.hid (by
        have h1 := HP.out.length_eq
        have h2 := List.length_filterMap_le (cutX (ax, ay) (bx, b_y)) (xs.take k)
        rw [List.length_take] at h2
        omega)
      have HLG : Hid (∀ x ∈ s, okC x) := Lib.hid (fun x hx => by
        have h1 := HP.out.mem_iff.1 hx
        obtain ⟨z, -, hz⟩ := List.mem_filterMap.1 h1; exact (cutX_good hz).1.1)
      generalize xs.getD k 0 = c at hc0 HSN
      have HFM : Hid (((xs.take (k + 1)).filterMap (cutX (ax, ay) (bx, b_y))) = ((xs.take k).filterMap (cutX (ax, ay) (bx, b_y))) ++ (cutX (ax, ay) (bx, b_y) c).toList) := Lib.hid (by rw [HSN.out, List.filterMap_append]; cases hcc : cutX (ax, ay) (bx, b_y) c <;> simp [hcc])
      generalize (xs.take k).filterMap (cutX (ax, ay) (bx, b_y)) = M at HP HFM
      have HCA := Lib.hid (fun w => rat_any ax ay bx b_y c w HMM.out.1 HMM.out.2)
      have HBD : Hid ((atX (ax, ay) (bx, b_y) c).2 = true → _) := Lib.hid (fun h => atx_bd h)
      have HCC : Hid (cutX (ax, ay) (bx, b_y) c = if (atX (ax, ay) (bx, b_y) c).2 = true then some (((c, (atX (ax, ay) (bx, b_y) c).1) : Pt), absI (c - ax), absI (bx - ax)) else none) := Lib.hid rfl
      have HGD : Hid (∀ z, cutX (ax, ay) (bx, b_y) c = some z → okC z) := Lib.hid (fun z hz => (cutX_good hz).1.1)
      generalize (atX (ax, ay) (bx, b_y) c).1 = y at HCA HCC
      generalize (atX (ax, ay) (bx, b_y) c).2 = ok at HCA HCC HBD
      have HF2 : Hid (∀ w', Grows wr w' → _) := Lib.hid (fun w' (hg : Grows wr w') => And.intro (HF.out w' (HG.out.trans hg)) ((Below.cell hg (p := ⟨ba, oa + k, none⟩) hba).trans hc0))
      clear hc0
      go_wp2_with fail
      refine wp_region_tab 18 (by kernel_rfl) (by kernel_rfl) ?_
      intro w0 hw0 hg1 hg1'
      simp only [List.take_succ_cons, List.take_zero, List.drop_succ_cons, List.drop_zero]
      refine tab_val (.pointer (some ⟨w.heap.size, 0, none⟩)) (fun r w1 hr hg hA => by obtain ⟨q0, -⟩ := hA; have q0e : r (.tmp 4) = .pointer (some ⟨w.heap.size, 0, none⟩) := q0; exact ⟨rfl, by simp [go_sem, q0e]⟩) ?_
      refine tab_val (.int .i64 ax) (fun r w1 hr hg hA => by obtain ⟨⟨_, q0⟩, -⟩ := hA; have q0e : r (.tmp 35) = .pointer (some ⟨w.heap.size, 0, none⟩) := q0; have hc := HF2.out w1 (hg1.trans hg); exact ⟨rfl, by simp [go_sem, q0e, hc]⟩) ?_
      refine tab_val (.pointer (some ⟨w.heap.size, 1, none⟩)) (fun r w1 hr hg hA => by obtain ⟨q0, -⟩ := hA; have q0e : r (.tmp 4) = .pointer (some ⟨w.heap.size, 0, none⟩) := q0; exact ⟨rfl, by simp [go_sem, q0e]⟩) ?_
      refine tab_val (.int .i64 ay) (fun r w1 hr hg hA => by obtain ⟨⟨_, q0⟩, -⟩ := hA; have q0e : r (.tmp 37) = .pointer (some ⟨w.heap.size, 1, none⟩) := q0; have hc := HF2.out w1 (hg1.trans hg); exact ⟨rfl, by simp [go_sem, q0e, hc]⟩) ?_
      refine tab_val (.pointer (some ⟨w.heap.size + 1, 0, none⟩)) (fun r w1 hr hg hA => by obtain ⟨q0, -⟩ := hA; have q0e : r (.tmp 5) = .pointer (some ⟨w.heap.size + 1, 0, none⟩) := q0; exact ⟨rfl, by simp [go_sem, q0e]⟩) ?_
      refine tab_val (.int .i64 bx) (fun r w1 hr hg hA => by obtain ⟨⟨_, q0⟩, -⟩ := hA; have q0e : r (.tmp 39) = .pointer (some ⟨w.heap.size + 1, 0, none⟩) := q0; have hc := HF2.out w1 (hg1.trans hg); exact ⟨rfl, by simp [go_sem, q0e, hc]⟩) ?_
      refine tab_val (.pointer (some ⟨w.heap.size + 1, 1, none⟩)) (fun r w1 hr hg hA => by obtain ⟨q0, -⟩ := hA; have q0e : r (.tmp 5) = .pointer (some ⟨w.heap.size + 1, 0, none⟩) := q0; exact ⟨rfl, by simp [go_sem, q0e]⟩) ?_
      refine tab_val (.int .i64 b_y) (fun r w1 hr hg hA => by obtain ⟨⟨_, q0⟩, -⟩ := hA; have q0e : r (.tmp 41) = .pointer (some ⟨w.heap.size + 1, 1, none⟩) := q0; have hc := HF2.out w1 (hg1.trans hg); exact ⟨rfl, by simp [go_sem, q0e, hc]⟩) ?_
      refine tab_val (.slice (some ⟨ba, oa, none⟩) nx cv) (fun r w1 hr hg hA => by obtain ⟨q0, -⟩ := hA; have q0e : r (.tmp 2) = .slice (some ⟨ba, oa, none⟩) nx cv := q0; exact ⟨rfl, by simp [go_sem, q0e]⟩) ?_
      refine tab_val (.int .i64 (k : Int)) (fun r w1 hr hg hA => by obtain ⟨q0, -⟩ := hA; have q0e : r (.tmp 10) = .int .i64 (k : Int) := q0; exact ⟨rfl, by simp [go_sem, q0e]⟩) ?_
      refine tab_val (.pointer (some ⟨ba, oa + k, none⟩)) (fun r w1 hr hg hA => by obtain ⟨⟨_, q0⟩, ⟨_, q1⟩, -⟩ := hA; have q0e : r (.tmp 43) = .slice (some ⟨ba, oa, none⟩) nx cv := q0; have q1e : r (.tmp 44) = .int .i64 (k : Int) := q1; exact ⟨rfl, by simp [go_sem, q0e, q1e, hlt]⟩) ?_
      refine tab_val (.int .i64 c) (fun r w1 hr hg hA => by obtain ⟨⟨_, q0⟩, -⟩ := hA; have q0e : r (.tmp 45) = .pointer (some ⟨ba, oa + k, none⟩) := q0; have hc := HF2.out w1 (hg1.trans hg); exact ⟨rfl, by simp [go_sem, q0e, hc]⟩) ?_
      refine tab_call (v := pair y ok) (fun w1 hg => HCA.out w1) (fun r w1 hr hg hA => by obtain ⟨⟨_, q0⟩, ⟨_, q1⟩, ⟨_, q2⟩, ⟨_, q3⟩, ⟨_, q4⟩, -⟩ := hA; have q0e : r (.tmp 36) = .int .i64 ax := q0; have q1e : r (.tmp 38) = .int .i64 ay := q1; have q2e : r (.tmp 40) = .int .i64 bx := q2; have q3e : r (.tmp 42) = .int .i64 b_y := q3; have q4e : r (.tmp 46) = .int .i64 c := q4; exact ⟨rfl, by simp [go_sem, hr.func, q0e, q1e, q2e, q3e, q4e]⟩) ?_
      refine tab_val (pair y ok) (fun r w1 hr hg hA => by obtain ⟨⟨_, q0⟩, -⟩ := hA; have q0e : r (.tmp 47) = pair y ok := q0; exact ⟨rfl, by simp [go_sem, q0e]⟩) ?_
      refine tab_val (.int .i64 y) (fun r w1 hr hg hA => by obtain ⟨⟨_, q0⟩, -⟩ := hA; have q0e : r (.tmp 34) = pair y ok := q0; exact ⟨rfl, by simp [go_sem, q0e]⟩) ?_
      refine tab_val (.bool ok) (fun r w1 hr hg hA => by obtain ⟨⟨_, q0⟩, -⟩ := hA; have q0e : r (.tmp 34) = pair y ok := q0; exact ⟨rfl, by simp [go_sem, q0e]⟩) ?_
      refine tab_val (.int .i64 y) (fun r w1 hr hg hA => by obtain ⟨⟨_, q0⟩, -⟩ := hA; have q0e : r (.tmp 48) = .int .i64 y := q0; exact ⟨rfl, by simp [go_sem, q0e]⟩) ?_
      refine tab_val (.bool ok) (fun r w1 hr hg hA => by obtain ⟨⟨_, q0⟩, -⟩ := hA; have q0e : r (.tmp 49) = .bool ok := q0; exact ⟨rfl, by simp [go_sem, q0e]⟩) ?_
      refine tab_end ?_
      simp only [List.reverse_cons, List.reverse_nil, List.nil_append, List.cons_append, Out, BlockP, forall_eq, forall_const, Act.put, List.setIfInBounds_toArray, List.set_cons_succ, List.set_cons_zero]
      intro wb hgA
      have KB : Hid (Grows wr wb) := Lib.hid (hg1.trans hgA)
      clear hg1 hgA hg1' hw0 HCA
      cases ok with
      | false =>
        have HE : Hid (cutX (ax, ay) (bx, b_y) c = none) := Lib.hid (by rw [HCC.out]; rfl)
        go_wp2
        exact ⟨⟨k + 1, o, s, by omega, rfl, by simp, Lib.hid (by rw [HFM.out, HE.out]; simpa using HP.out), HS, Lib.hid (ownsRow_grows HO.out KB.out), Lib.hid (HG.out.trans KB.out)⟩, by simp only [intOf]; omega⟩
      | true =>
        obtain ⟨d1, d2⟩ := HBD.out rfl
        have HW1 := Lib.hid (wrap_small d1)
        have HW2 := Lib.hid (wrap_small d2)
        have HA1 := Lib.hid (fun w => rabs_any (c - ax) w (by omega) (by omega))
        have HA2 := Lib.hid (fun w => rabs_any (bx - ax) w (by omega) (by omega))
        have HE : Hid (cutX (ax, ay) (bx, b_y) c = some (((c, y) : Pt), absI (c - ax), absI (bx - ax))) := Lib.hid (by rw [HCC.out]; rfl)
        clear HCC HBD d1 d2
        generalize absI (c - ax) = f at HA1 HE
        generalize absI (bx - ax) = d at HA2 HE
        rw [HE.out] at HFM HGD
        have HOK := Lib.hid (HGD.out _ rfl)
        clear HE HGD
        go_wp2_with fail
        refine wp_region_tab 22 (by kernel_rfl) (by kernel_rfl) ?_
        intro w0 hw0 hg1 hg1'
        simp only [List.take_succ_cons, List.take_zero, List.drop_succ_cons, List.drop_zero]
        refine tab_val (o) (fun r w1 hr hg hA => by obtain ⟨q0, -⟩ := hA; have q0e : r (.tmp 9) = o := q0; exact ⟨rfl, by simp [go_sem, q0e]⟩) ?_
        refine tab_val (.slice (some ⟨ba, oa, none⟩) nx cv) (fun r w1 hr hg hA => by obtain ⟨q0, -⟩ := hA; have q0e : r (.tmp 2) = .slice (some ⟨ba, oa, none⟩) nx cv := q0; exact ⟨rfl, by simp [go_sem, q0e]⟩) ?_
        refine tab_val (.int .i64 (k : Int)) (fun r w1 hr hg hA => by obtain ⟨q0, -⟩ := hA; have q0e : r (.tmp 10) = .int .i64 (k : Int) := q0; exact ⟨rfl, by simp [go_sem, q0e]⟩) ?_
        refine tab_val (.pointer (some ⟨ba, oa + k, none⟩)) (fun r w1 hr hg hA => by obtain ⟨⟨_, q0⟩, ⟨_, q1⟩, -⟩ := hA; have q0e : r (.tmp 52) = .slice (some ⟨ba, oa, none⟩) nx cv := q0; have q1e : r (.tmp 53) = .int .i64 (k : Int) := q1; exact ⟨rfl, by simp [go_sem, q0e, q1e, hlt]⟩) ?_
        refine tab_val (.int .i64 c) (fun r w1 hr hg hA => by obtain ⟨⟨_, q0⟩, -⟩ := hA; have q0e : r (.tmp 54) = .pointer (some ⟨ba, oa + k, none⟩) := q0; have hc := HF2.out w1 ((KB.out.trans hg1).trans hg); exact ⟨rfl, by simp [go_sem, q0e, hc]⟩) ?_
        refine tab_val (.int .i64 y) (fun r w1 hr hg hA => by obtain ⟨q0, -⟩ := hA; have q0e : r (.tmp 11) = .int .i64 y := q0; exact ⟨rfl, by simp [go_sem, q0e]⟩) ?_
        refine tab_val (.agg #[.int .i64 c, .int .i64 y]) (fun r w1 hr hg hA => by obtain ⟨⟨_, q0⟩, ⟨_, q1⟩, -⟩ := hA; have q0e : r (.tmp 55) = .int .i64 c := q0; have q1e : r (.tmp 56) = .int .i64 y := q1; exact ⟨rfl, by simp [go_sem, q0e, q1e]⟩) ?_
        refine tab_val (.slice (some ⟨ba, oa, none⟩) nx cv) (fun r w1 hr hg hA => by obtain ⟨q0, -⟩ := hA; have q0e : r (.tmp 2) = .slice (some ⟨ba, oa, none⟩) nx cv := q0; exact ⟨rfl, by simp [go_sem, q0e]⟩) ?_
        refine tab_val (.int .i64 (k : Int)) (fun r w1 hr hg hA => by obtain ⟨q0, -⟩ := hA; have q0e : r (.tmp 10) = .int .i64 (k : Int) := q0; exact ⟨rfl, by simp [go_sem, q0e]⟩) ?_
        refine tab_val (.pointer (some ⟨ba, oa + k, none⟩)) (fun r w1 hr hg hA => by obtain ⟨⟨_, q0⟩, ⟨_, q1⟩, -⟩ := hA; have q0e : r (.tmp 58) = .slice (some ⟨ba, oa, none⟩) nx cv := q0; have q1e : r (.tmp 59) = .int .i64 (k : Int) := q1; exact ⟨rfl, by simp [go_sem, q0e, q1e, hlt]⟩) ?_
        refine tab_val (.int .i64 c) (fun r w1 hr hg hA => by obtain ⟨⟨_, q0⟩, -⟩ := hA; have q0e : r (.tmp 60) = .pointer (some ⟨ba, oa + k, none⟩) := q0; have hc := HF2.out w1 ((KB.out.trans hg1).trans hg); exact ⟨rfl, by simp [go_sem, q0e, hc]⟩) ?_
        refine tab_val (.pointer (some ⟨w.heap.size, 0, none⟩)) (fun r w1 hr hg hA => by obtain ⟨q0, -⟩ := hA; have q0e : r (.tmp 4) = .pointer (some ⟨w.heap.size, 0, none⟩) := q0; exact ⟨rfl, by simp [go_sem, q0e]⟩) ?_
        refine tab_val (.int .i64 ax) (fun r w1 hr hg hA => by obtain ⟨⟨_, q0⟩, -⟩ := hA; have q0e : r (.tmp 62) = .pointer (some ⟨w.heap.size, 0, none⟩) := q0; have hc := HF2.out w1 ((KB.out.trans hg1).trans hg); exact ⟨rfl, by simp [go_sem, q0e, hc]⟩) ?_
        refine tab_val (.int .i64 (c - ax)) (fun r w1 hr hg hA => by obtain ⟨⟨_, q0⟩, ⟨_, q1⟩, -⟩ := hA; have q0e : r (.tmp 61) = .int .i64 c := q0; have q1e : r (.tmp 63) = .int .i64 ax := q1; exact ⟨rfl, by simp [go_sem, q0e, q1e, HW1.out]⟩) ?_
        refine tab_call (v := .int .i64 f) (fun w1 hg => HA1.out w1) (fun r w1 hr hg hA => by obtain ⟨⟨_, q0⟩, -⟩ := hA; have q0e : r (.tmp 64) = .int .i64 (c - ax) := q0; exact ⟨rfl, by simp [go_sem, hr.func, q0e]⟩) ?_
        refine tab_val (.pointer (some ⟨w.heap.size + 1, 0, none⟩)) (fun r w1 hr hg hA => by obtain ⟨q0, -⟩ := hA; have q0e : r (.tmp 5) = .pointer (some ⟨w.heap.size + 1, 0, none⟩) := q0; exact ⟨rfl, by simp [go_sem, q0e]⟩) ?_
        refine tab_val (.int .i64 bx) (fun r w1 hr hg hA => by obtain ⟨⟨_, q0⟩, -⟩ := hA; have q0e : r (.tmp 66) = .pointer (some ⟨w.heap.size + 1, 0, none⟩) := q0; have hc := HF2.out w1 ((KB.out.trans hg1).trans hg); exact ⟨rfl, by simp [go_sem, q0e, hc]⟩) ?_
        refine tab_val (.pointer (some ⟨w.heap.size, 0, none⟩)) (fun r w1 hr hg hA => by obtain ⟨q0, -⟩ := hA; have q0e : r (.tmp 4) = .pointer (some ⟨w.heap.size, 0, none⟩) := q0; exact ⟨rfl, by simp [go_sem, q0e]⟩) ?_
        refine tab_val (.int .i64 ax) (fun r w1 hr hg hA => by obtain ⟨⟨_, q0⟩, -⟩ := hA; have q0e : r (.tmp 68) = .pointer (some ⟨w.heap.size, 0, none⟩) := q0; have hc := HF2.out w1 ((KB.out.trans hg1).trans hg); exact ⟨rfl, by simp [go_sem, q0e, hc]⟩) ?_
        refine tab_val (.int .i64 (bx - ax)) (fun r w1 hr hg hA => by obtain ⟨⟨_, q0⟩, ⟨_, q1⟩, -⟩ := hA; have q0e : r (.tmp 67) = .int .i64 bx := q0; have q1e : r (.tmp 69) = .int .i64 ax := q1; exact ⟨rfl, by simp [go_sem, q0e, q1e, HW2.out]⟩) ?_
        refine tab_call (v := .int .i64 d) (fun w1 hg => HA2.out w1) (fun r w1 hr hg hA => by obtain ⟨⟨_, q0⟩, -⟩ := hA; have q0e : r (.tmp 70) = .int .i64 (bx - ax) := q0; exact ⟨rfl, by simp [go_sem, hr.func, q0e]⟩) ?_
        refine tab_val (.agg #[.int .i64 c, .int .i64 y, .int .i64 f, .int .i64 d]) (fun r w1 hr hg hA => by obtain ⟨⟨_, q0⟩, ⟨_, q1⟩, ⟨_, q2⟩, -⟩ := hA; have q0e : r (.tmp 57) = .agg #[.int .i64 c, .int .i64 y] := q0; have q1e : r (.tmp 65) = .int .i64 f := q1; have q2e : r (.tmp 71) = .int .i64 d := q2; exact ⟨rfl, by simp [go_sem, q0e, q1e, q2e]⟩) ?_
        refine tab_end ?_
        simp only [List.reverse_cons, List.reverse_nil, List.nil_append, List.cons_append, Out, BlockP, forall_eq, forall_const, Act.put, List.setIfInBounds_toArray, List.set_cons_succ, List.set_cons_zero]
        intro wc hgA
        have KC : Hid (Grows wr wc) := Lib.hid (KB.out.trans (hg1.trans hgA))
        clear hg1 hgA hg1' hw0 HA1 HA2 HW1 HW2 KB
        have HPUT := Lib.hid (rput_any o s ((c, y), f, d) 0 s.length wc (ownsRow_grows HO.out KC.out) rfl HLG.out HOK.out HS.out (by have := HLS.out; omega))
        unfold cutV at HPUT
        simp only at HPUT
        go_wp2_with (go_at_call 33; refine HPUT.out.mono ?_; rintro _ wd ⟨o', s', rfl, hps, hbs, hown, hgd⟩; have HP2 := Lib.hid hps; have HS2 := Lib.hid hbs; have HO2 := Lib.hid hown; have HG2 := Lib.hid (HG.out.trans (KC.out.trans hgd)); clear hps hbs hown hgd HPUT)
        exact ⟨⟨k + 1, o', s', by omega, rfl, by simp, Lib.hid (by
          rw [HFM.out, Option.toList_some]
          refine HP2.out.trans ((List.Perm.cons _ HP.out).trans ?_)
          skip
          exact (List.perm_append_singleton _ _).symm), HS2, Lib.hid (by
          have h1 := HP2.out.length_eq
          rw [List.length_cons] at h1
          rw [h1]
          exact own_base HO2.out (Nat.zero_le _)), HG2⟩, by simp only [intOf]; omega⟩
    · obtain rfl : k = nx := by omega
      have HF0E : Hid (xs.filterMap (cutX (ax, ay) (bx, b_y)) = (xs.take k).filterMap (cutX (ax, ay) (bx, b_y))) := Lib.hid (by rw [List.take_of_length_le (by rw [← HNX.out]; exact Nat.le_refl _)])
      have HF0 : Hid (((xs.take k).filterMap (cutX (ax, ay) (bx, b_y))).length ≤ 20) := Lib.hid (by have := List.length_filterMap_le (cutX (ax, ay) (bx, b_y)) (xs.take k); rw [List.length_take] at this; omega)
      have HFG : Hid (∀ x ∈ (xs.take k).filterMap (cutX (ax, ay) (bx, b_y)), okC x) := Lib.hid (fun x hx => by obtain ⟨z, -, hz⟩ := List.mem_filterMap.1 hx; exact (cutX_good hz).1.1)
      have HF0E : Hid ((xs.take k).filterMap (cutX (ax, ay) (bx, b_y)) ++ ys.filterMap (cutY (ax, ay) (bx, b_y)) = cutsF (ax, ay) (bx, b_y) xs ys) := Lib.hid (by rw [← HF0E.out]; rfl)
      generalize (xs.take k).filterMap (cutX (ax, ay) (bx, b_y)) = F0 at HP HF0 HFG HF0E
      go_wp2
      go_loopw [9, 13] (fun o' i wr => ∃ (k : Nat) (o : Value) (s : List Cut), k ≤ ny ∧ o = o' ∧ i = .int .i64 (k : Int) ∧ Hid (s.Perm (F0 ++ (ys.take k).filterMap (cutY (ax, ay) (bx, b_y)))) ∧ Hid (ByFrac s) ∧ Hid (wr.ownsRow 0 67 4 o s.length (ccells s)) ∧ Hid (Grows wq wr)) (fun _ i _ => ny - (intOf i).toNat)
      case atStart => exact ⟨0, _, s, Nat.zero_le _, rfl, rfl, Lib.hid (by rw [List.take_zero, List.filterMap_nil, List.append_nil]; exact HP.out), HS, HO, HG⟩
      case round =>
        clear HO HG HS
        obtain ⟨k, o, s, hk, rfl, rfl, HP, HS, HO, HG⟩ := hrel
        by_cases hlt : k < ny
        · have hltz : (k : Int) < (ny : Int) := by omega
          obtain ⟨ba, oa, rfl, hba, hc0⟩ := (HYS.out.grows (G.out.trans HG.out)).at_ (i := k) (by rw [← HNY.out]; exact hlt)
          have HSN := Lib.hid (take_snocI (l := ys) (k := k) (by rw [← HNY.out]; exact hlt))
          have HLS : Hid (s.length ≤ 40) := Lib.hid (by
            have h1 := HP.out.length_eq
            have h2 := List.length_filterMap_le (cutY (ax, ay) (bx, b_y)) (ys.take k)
            rw [List.length_take] at h2
            have h3 := HF0.out
            rw [List.length_append] at h1
            omega)
          have HLG : Hid (∀ x ∈ s, okC x) := Lib.hid (fun x hx => by
            have h1 := HP.out.mem_iff.1 hx
            rcases List.mem_append.1 h1 with h1 | h1
            · exact HFG.out x h1
            · obtain ⟨z, -, hz⟩ := List.mem_filterMap.1 h1; exact (cutY_good hz).1.1)
          generalize ys.getD k 0 = c at hc0 HSN
          have HFM : Hid (((ys.take (k + 1)).filterMap (cutY (ax, ay) (bx, b_y))) = ((ys.take k).filterMap (cutY (ax, ay) (bx, b_y))) ++ (cutY (ax, ay) (bx, b_y) c).toList) := Lib.hid (by rw [HSN.out, List.filterMap_append]; cases hcc : cutY (ax, ay) (bx, b_y) c <;> simp [hcc])
          generalize (ys.take k).filterMap (cutY (ax, ay) (bx, b_y)) = M at HP HFM
          have HCA := Lib.hid (fun w => rat_any ay ax b_y bx c w (may_sw HMM.out.1) (may_sw HMM.out.2))
          have HBD : Hid ((atY (ax, ay) (bx, b_y) c).2 = true → _) := Lib.hid (fun h => aty_bd h)
          have HCC : Hid (cutY (ax, ay) (bx, b_y) c = if (atY (ax, ay) (bx, b_y) c).2 = true then some ((((atY (ax, ay) (bx, b_y) c).1, c) : Pt), absI (c - ay), absI (b_y - ay)) else none) := Lib.hid rfl
          have HGD : Hid (∀ z, cutY (ax, ay) (bx, b_y) c = some z → okC z) := Lib.hid (fun z hz => (cutY_good hz).1.1)
          unfold atY at HBD HCC
          simp only at HBD HCC
          generalize (atX (ay, ax) (b_y, bx) c).1 = y at HCA HCC
          generalize (atX (ay, ax) (b_y, bx) c).2 = ok at HCA HCC HBD
          have HF2 : Hid (∀ w', Grows wr w' → _) := Lib.hid (fun w' (hg : Grows wr w') => And.intro (HF.out w' (HG.out.trans hg)) ((Below.cell hg (p := ⟨ba, oa + k, none⟩) hba).trans hc0))
          clear hc0
          go_wp2_with fail
          refine wp_region_tab 18 (by kernel_rfl) (by kernel_rfl) ?_
          intro w0 hw0 hg1 hg1'
          simp only [List.take_succ_cons, List.take_zero, List.drop_succ_cons, List.drop_zero]
          refine tab_val (.pointer (some ⟨w.heap.size, 1, none⟩)) (fun r w1 hr hg hA => by obtain ⟨q0, -⟩ := hA; have q0e : r (.tmp 4) = .pointer (some ⟨w.heap.size, 0, none⟩) := q0; exact ⟨rfl, by simp [go_sem, q0e]⟩) ?_
          refine tab_val (.int .i64 ay) (fun r w1 hr hg hA => by obtain ⟨⟨_, q0⟩, -⟩ := hA; have q0e : r (.tmp 81) = .pointer (some ⟨w.heap.size, 1, none⟩) := q0; have hc := HF2.out w1 (hg1.trans hg); exact ⟨rfl, by simp [go_sem, q0e, hc]⟩) ?_
          refine tab_val (.pointer (some ⟨w.heap.size, 0, none⟩)) (fun r w1 hr hg hA => by obtain ⟨q0, -⟩ := hA; have q0e : r (.tmp 4) = .pointer (some ⟨w.heap.size, 0, none⟩) := q0; exact ⟨rfl, by simp [go_sem, q0e]⟩) ?_
          refine tab_val (.int .i64 ax) (fun r w1 hr hg hA => by obtain ⟨⟨_, q0⟩, -⟩ := hA; have q0e : r (.tmp 83) = .pointer (some ⟨w.heap.size, 0, none⟩) := q0; have hc := HF2.out w1 (hg1.trans hg); exact ⟨rfl, by simp [go_sem, q0e, hc]⟩) ?_
          refine tab_val (.pointer (some ⟨w.heap.size + 1, 1, none⟩)) (fun r w1 hr hg hA => by obtain ⟨q0, -⟩ := hA; have q0e : r (.tmp 5) = .pointer (some ⟨w.heap.size + 1, 0, none⟩) := q0; exact ⟨rfl, by simp [go_sem, q0e]⟩) ?_
          refine tab_val (.int .i64 b_y) (fun r w1 hr hg hA => by obtain ⟨⟨_, q0⟩, -⟩ := hA; have q0e : r (.tmp 85) = .pointer (some ⟨w.heap.size + 1, 1, none⟩) := q0; have hc := HF2.out w1 (hg1.trans hg); exact ⟨rfl, by simp [go_sem, q0e, hc]⟩) ?_
          refine tab_val (.pointer (some ⟨w.heap.size + 1, 0, none⟩)) (fun r w1 hr hg hA => by obtain ⟨q0, -⟩ := hA; have q0e : r (.tmp 5) = .pointer (some ⟨w.heap.size + 1, 0, none⟩) := q0; exact ⟨rfl, by simp [go_sem, q0e]⟩) ?_
          refine tab_val (.int .i64 bx) (fun r w1 hr hg hA => by obtain ⟨⟨_, q0⟩, -⟩ := hA; have q0e : r (.tmp 87) = .pointer (some ⟨w.heap.size + 1, 0, none⟩) := q0; have hc := HF2.out w1 (hg1.trans hg); exact ⟨rfl, by simp [go_sem, q0e, hc]⟩) ?_
          refine tab_val (.slice (some ⟨ba, oa, none⟩) ny cu) (fun r w1 hr hg hA => by obtain ⟨q0, -⟩ := hA; have q0e : r (.tmp 3) = .slice (some ⟨ba, oa, none⟩) ny cu := q0; exact ⟨rfl, by simp [go_sem, q0e]⟩) ?_
          refine tab_val (.int .i64 (k : Int)) (fun r w1 hr hg hA => by obtain ⟨q0, -⟩ := hA; have q0e : r (.tmp 13) = .int .i64 (k : Int) := q0; exact ⟨rfl, by simp [go_sem, q0e]⟩) ?_
          refine tab_val (.pointer (some ⟨ba, oa + k, none⟩)) (fun r w1 hr hg hA => by obtain ⟨⟨_, q0⟩, ⟨_, q1⟩, -⟩ := hA; have q0e : r (.tmp 89) = .slice (some ⟨ba, oa, none⟩) ny cu := q0; have q1e : r (.tmp 90) = .int .i64 (k : Int) := q1; exact ⟨rfl, by simp [go_sem, q0e, q1e, hlt]⟩) ?_
          refine tab_val (.int .i64 c) (fun r w1 hr hg hA => by obtain ⟨⟨_, q0⟩, -⟩ := hA; have q0e : r (.tmp 91) = .pointer (some ⟨ba, oa + k, none⟩) := q0; have hc := HF2.out w1 (hg1.trans hg); exact ⟨rfl, by simp [go_sem, q0e, hc]⟩) ?_
          refine tab_call (v := pair y ok) (fun w1 hg => HCA.out w1) (fun r w1 hr hg hA => by obtain ⟨⟨_, q0⟩, ⟨_, q1⟩, ⟨_, q2⟩, ⟨_, q3⟩, ⟨_, q4⟩, -⟩ := hA; have q0e : r (.tmp 82) = .int .i64 ay := q0; have q1e : r (.tmp 84) = .int .i64 ax := q1; have q2e : r (.tmp 86) = .int .i64 b_y := q2; have q3e : r (.tmp 88) = .int .i64 bx := q3; have q4e : r (.tmp 92) = .int .i64 c := q4; exact ⟨rfl, by simp [go_sem, hr.func, q0e, q1e, q2e, q3e, q4e]⟩) ?_
          refine tab_val (pair y ok) (fun r w1 hr hg hA => by obtain ⟨⟨_, q0⟩, -⟩ := hA; have q0e : r (.tmp 93) = pair y ok := q0; exact ⟨rfl, by simp [go_sem, q0e]⟩) ?_
          refine tab_val (.int .i64 y) (fun r w1 hr hg hA => by obtain ⟨⟨_, q0⟩, -⟩ := hA; have q0e : r (.tmp 80) = pair y ok := q0; exact ⟨rfl, by simp [go_sem, q0e]⟩) ?_
          refine tab_val (.bool ok) (fun r w1 hr hg hA => by obtain ⟨⟨_, q0⟩, -⟩ := hA; have q0e : r (.tmp 80) = pair y ok := q0; exact ⟨rfl, by simp [go_sem, q0e]⟩) ?_
          refine tab_val (.int .i64 y) (fun r w1 hr hg hA => by obtain ⟨⟨_, q0⟩, -⟩ := hA; have q0e : r (.tmp 94) = .int .i64 y := q0; exact ⟨rfl, by simp [go_sem, q0e]⟩) ?_
          refine tab_val (.bool ok) (fun r w1 hr hg hA => by obtain ⟨⟨_, q0⟩, -⟩ := hA; have q0e : r (.tmp 95) = .bool ok := q0; exact ⟨rfl, by simp [go_sem, q0e]⟩) ?_
          refine tab_end ?_
          simp only [List.reverse_cons, List.reverse_nil, List.nil_append, List.cons_append, Out, BlockP, forall_eq, forall_const, Act.put, List.setIfInBounds_toArray, List.set_cons_succ, List.set_cons_zero]
          intro wb hgA
          have KB : Hid (Grows wr wb) := Lib.hid (hg1.trans hgA)
          clear hg1 hgA hg1' hw0 HCA
          cases ok with
          | false =>
            have HE : Hid (cutY (ax, ay) (bx, b_y) c = none) := Lib.hid (by rw [HCC.out]; rfl)
            go_wp2
            exact ⟨⟨k + 1, o, s, by omega, rfl, by simp, Lib.hid (by rw [HFM.out, HE.out]; simpa using HP.out), HS, Lib.hid (ownsRow_grows HO.out KB.out), Lib.hid (HG.out.trans KB.out)⟩, by simp only [intOf]; omega⟩
          | true =>
            obtain ⟨d1, d2⟩ := HBD.out rfl
            have HW1 := Lib.hid (wrap_small d1)
            have HW2 := Lib.hid (wrap_small d2)
            have HA1 := Lib.hid (fun w => rabs_any (c - ay) w (by omega) (by omega))
            have HA2 := Lib.hid (fun w => rabs_any (b_y - ay) w (by omega) (by omega))
            have HE : Hid (cutY (ax, ay) (bx, b_y) c = some (((y, c) : Pt), absI (c - ay), absI (b_y - ay))) := Lib.hid (by rw [HCC.out]; rfl)
            clear HCC HBD d1 d2
            generalize absI (c - ay) = f at HA1 HE
            generalize absI (b_y - ay) = d at HA2 HE
            rw [HE.out] at HFM HGD
            have HOK := Lib.hid (HGD.out _ rfl)
            clear HE HGD
            go_wp2_with fail
            refine wp_region_tab 22 (by kernel_rfl) (by kernel_rfl) ?_
            intro w0 hw0 hg1 hg1'
            simp only [List.take_succ_cons, List.take_zero, List.drop_succ_cons, List.drop_zero]
            refine tab_val (o) (fun r w1 hr hg hA => by obtain ⟨q0, -⟩ := hA; have q0e : r (.tmp 9) = o := q0; exact ⟨rfl, by simp [go_sem, q0e]⟩) ?_
            refine tab_val (.int .i64 y) (fun r w1 hr hg hA => by obtain ⟨q0, -⟩ := hA; have q0e : r (.tmp 14) = .int .i64 y := q0; exact ⟨rfl, by simp [go_sem, q0e]⟩) ?_
            refine tab_val (.slice (some ⟨ba, oa, none⟩) ny cu) (fun r w1 hr hg hA => by obtain ⟨q0, -⟩ := hA; have q0e : r (.tmp 3) = .slice (some ⟨ba, oa, none⟩) ny cu := q0; exact ⟨rfl, by simp [go_sem, q0e]⟩) ?_
            refine tab_val (.int .i64 (k : Int)) (fun r w1 hr hg hA => by obtain ⟨q0, -⟩ := hA; have q0e : r (.tmp 13) = .int .i64 (k : Int) := q0; exact ⟨rfl, by simp [go_sem, q0e]⟩) ?_
            refine tab_val (.pointer (some ⟨ba, oa + k, none⟩)) (fun r w1 hr hg hA => by obtain ⟨⟨_, q0⟩, ⟨_, q1⟩, -⟩ := hA; have q0e : r (.tmp 99) = .slice (some ⟨ba, oa, none⟩) ny cu := q0; have q1e : r (.tmp 100) = .int .i64 (k : Int) := q1; exact ⟨rfl, by simp [go_sem, q0e, q1e, hlt]⟩) ?_
            refine tab_val (.int .i64 c) (fun r w1 hr hg hA => by obtain ⟨⟨_, q0⟩, -⟩ := hA; have q0e : r (.tmp 101) = .pointer (some ⟨ba, oa + k, none⟩) := q0; have hc := HF2.out w1 ((KB.out.trans hg1).trans hg); exact ⟨rfl, by simp [go_sem, q0e, hc]⟩) ?_
            refine tab_val (.agg #[.int .i64 y, .int .i64 c]) (fun r w1 hr hg hA => by obtain ⟨⟨_, q0⟩, ⟨_, q1⟩, -⟩ := hA; have q0e : r (.tmp 98) = .int .i64 y := q0; have q1e : r (.tmp 102) = .int .i64 c := q1; exact ⟨rfl, by simp [go_sem, q0e, q1e]⟩) ?_
            refine tab_val (.slice (some ⟨ba, oa, none⟩) ny cu) (fun r w1 hr hg hA => by obtain ⟨q0, -⟩ := hA; have q0e : r (.tmp 3) = .slice (some ⟨ba, oa, none⟩) ny cu := q0; exact ⟨rfl, by simp [go_sem, q0e]⟩) ?_
            refine tab_val (.int .i64 (k : Int)) (fun r w1 hr hg hA => by obtain ⟨q0, -⟩ := hA; have q0e : r (.tmp 13) = .int .i64 (k : Int) := q0; exact ⟨rfl, by simp [go_sem, q0e]⟩) ?_
            refine tab_val (.pointer (some ⟨ba, oa + k, none⟩)) (fun r w1 hr hg hA => by obtain ⟨⟨_, q0⟩, ⟨_, q1⟩, -⟩ := hA; have q0e : r (.tmp 104) = .slice (some ⟨ba, oa, none⟩) ny cu := q0; have q1e : r (.tmp 105) = .int .i64 (k : Int) := q1; exact ⟨rfl, by simp [go_sem, q0e, q1e, hlt]⟩) ?_
            refine tab_val (.int .i64 c) (fun r w1 hr hg hA => by obtain ⟨⟨_, q0⟩, -⟩ := hA; have q0e : r (.tmp 106) = .pointer (some ⟨ba, oa + k, none⟩) := q0; have hc := HF2.out w1 ((KB.out.trans hg1).trans hg); exact ⟨rfl, by simp [go_sem, q0e, hc]⟩) ?_
            refine tab_val (.pointer (some ⟨w.heap.size, 1, none⟩)) (fun r w1 hr hg hA => by obtain ⟨q0, -⟩ := hA; have q0e : r (.tmp 4) = .pointer (some ⟨w.heap.size, 0, none⟩) := q0; exact ⟨rfl, by simp [go_sem, q0e]⟩) ?_
            refine tab_val (.int .i64 ay) (fun r w1 hr hg hA => by obtain ⟨⟨_, q0⟩, -⟩ := hA; have q0e : r (.tmp 108) = .pointer (some ⟨w.heap.size, 1, none⟩) := q0; have hc := HF2.out w1 ((KB.out.trans hg1).trans hg); exact ⟨rfl, by simp [go_sem, q0e, hc]⟩) ?_
            refine tab_val (.int .i64 (c - ay)) (fun r w1 hr hg hA => by obtain ⟨⟨_, q0⟩, ⟨_, q1⟩, -⟩ := hA; have q0e : r (.tmp 107) = .int .i64 c := q0; have q1e : r (.tmp 109) = .int .i64 ay := q1; exact ⟨rfl, by simp [go_sem, q0e, q1e, HW1.out]⟩) ?_
            refine tab_call (v := .int .i64 f) (fun w1 hg => HA1.out w1) (fun r w1 hr hg hA => by obtain ⟨⟨_, q0⟩, -⟩ := hA; have q0e : r (.tmp 110) = .int .i64 (c - ay) := q0; exact ⟨rfl, by simp [go_sem, hr.func, q0e]⟩) ?_
            refine tab_val (.pointer (some ⟨w.heap.size + 1, 1, none⟩)) (fun r w1 hr hg hA => by obtain ⟨q0, -⟩ := hA; have q0e : r (.tmp 5) = .pointer (some ⟨w.heap.size + 1, 0, none⟩) := q0; exact ⟨rfl, by simp [go_sem, q0e]⟩) ?_
            refine tab_val (.int .i64 b_y) (fun r w1 hr hg hA => by obtain ⟨⟨_, q0⟩, -⟩ := hA; have q0e : r (.tmp 112) = .pointer (some ⟨w.heap.size + 1, 1, none⟩) := q0; have hc := HF2.out w1 ((KB.out.trans hg1).trans hg); exact ⟨rfl, by simp [go_sem, q0e, hc]⟩) ?_
            refine tab_val (.pointer (some ⟨w.heap.size, 1, none⟩)) (fun r w1 hr hg hA => by obtain ⟨q0, -⟩ := hA; have q0e : r (.tmp 4) = .pointer (some ⟨w.heap.size, 0, none⟩) := q0; exact ⟨rfl, by simp [go_sem, q0e]⟩) ?_
            refine tab_val (.int .i64 ay) (fun r w1 hr hg hA => by obtain ⟨⟨_, q0⟩, -⟩ := hA; have q0e : r (.tmp 114) = .pointer (some ⟨w.heap.size, 1, none⟩) := q0; have hc := HF2.out w1 ((KB.out.trans hg1).trans hg); exact ⟨rfl, by simp [go_sem, q0e, hc]⟩) ?_
            refine tab_val (.int .i64 (b_y - ay)) (fun r w1 hr hg hA => by obtain ⟨⟨_, q0⟩, ⟨_, q1⟩, -⟩ := hA; have q0e : r (.tmp 113) = .int .i64 b_y := q0; have q1e : r (.tmp 115) = .int .i64 ay := q1; exact ⟨rfl, by simp [go_sem, q0e, q1e, HW2.out]⟩) ?_
            refine tab_call (v := .int .i64 d) (fun w1 hg => HA2.out w1) (fun r w1 hr hg hA => by obtain ⟨⟨_, q0⟩, -⟩ := hA; have q0e : r (.tmp 116) = .int .i64 (b_y - ay) := q0; exact ⟨rfl, by simp [go_sem, hr.func, q0e]⟩) ?_
            refine tab_val (.agg #[.int .i64 y, .int .i64 c, .int .i64 f, .int .i64 d]) (fun r w1 hr hg hA => by obtain ⟨⟨_, q0⟩, ⟨_, q1⟩, ⟨_, q2⟩, -⟩ := hA; have q0e : r (.tmp 103) = .agg #[.int .i64 y, .int .i64 c] := q0; have q1e : r (.tmp 111) = .int .i64 f := q1; have q2e : r (.tmp 117) = .int .i64 d := q2; exact ⟨rfl, by simp [go_sem, q0e, q1e, q2e]⟩) ?_
            refine tab_end ?_
            simp only [List.reverse_cons, List.reverse_nil, List.nil_append, List.cons_append, Out, BlockP, forall_eq, forall_const, Act.put, List.setIfInBounds_toArray, List.set_cons_succ, List.set_cons_zero]
            intro wc hgA
            have KC : Hid (Grows wr wc) := Lib.hid (KB.out.trans (hg1.trans hgA))
            clear hg1 hgA hg1' hw0 HA1 HA2 HW1 HW2 KB
            have HPUT := Lib.hid (rput_any o s ((y, c), f, d) 0 s.length wc (ownsRow_grows HO.out KC.out) rfl HLG.out HOK.out HS.out (by have := HLS.out; omega))
            unfold cutV at HPUT
            simp only at HPUT
            go_wp2_with (go_at_call 33; refine HPUT.out.mono ?_; rintro _ wd ⟨o', s', rfl, hps, hbs, hown, hgd⟩; have HP2 := Lib.hid hps; have HS2 := Lib.hid hbs; have HO2 := Lib.hid hown; have HG2 := Lib.hid (HG.out.trans (KC.out.trans hgd)); clear hps hbs hown hgd HPUT)
            exact ⟨⟨k + 1, o', s', by omega, rfl, by simp, Lib.hid (by
              rw [HFM.out, Option.toList_some]
              refine HP2.out.trans ((List.Perm.cons _ HP.out).trans ?_)
              rw [← List.append_assoc]
              exact (List.perm_append_singleton _ _).symm), HS2, Lib.hid (by
              have h1 := HP2.out.length_eq
              rw [List.length_cons] at h1
              rw [h1]
              exact own_base HO2.out (Nat.zero_le _)), HG2⟩, by simp only [intOf]; omega⟩
        · obtain rfl : k = ny := by omega
          have HPP : Hid (s.Perm (cutsF (ax, ay) (bx, b_y) xs ys)) := Lib.hid (by
            have h1 := HP.out
            rw [List.take_of_length_le (by rw [← HNY.out]; exact Nat.le_refl _)] at h1
            rw [HF0E.out] at h1
            exact h1)
          have HDD := Lib.hid (cuts_dd HL.out HPP.out HS.out)
          have HLS : Hid (s.length ≤ 40) := Lib.hid (by have h1 := HPP.out.length_eq; have h2 := cutsF_len (ax, ay) (bx, b_y) xs ys; rw [← HNX.out, ← HNY.out] at h2; omega)
          clear HP HS HPP HFG HF0 HF0E
          obtain ⟨wX, rfl⟩ : ∃ wX : World, wX = wr := ⟨_, rfl⟩
          obtain ⟨⟨a0, a1, -, -⟩, ⟨b0, b1, -, -⟩⟩ := HF.out _ HG.out
          obtain ⟨m, hm⟩ : ∃ m, m = s.length := ⟨_, rfl⟩
          rw [← hm] at HO HLS
          have HM := Lib.hid hm
          have hm40 : m ≤ 40 := HLS.out
          obtain ⟨aS, cS, ho, haS⟩ : ∃ aS cS, o = .slice aS m cS ∧ (0 < m → ∃ g, aS = some ⟨g, 0, none⟩) := by
            obtain ⟨-, ⟨hv, h0⟩ | ⟨g, cap, cur, hv, -⟩⟩ := HO.out
            · exact ⟨none, 0, by rw [hv, h0], fun h => by omega⟩
            · exact ⟨_, _, hv, fun _ => ⟨g, rfl⟩⟩
          subst ho
          have HAS := Lib.hid haS
          clear haS hm HLS
          go_wp2
          have HA0 : Hid ((wX.alloc (.cells #[.int .i64 ax, .int .i64 ay] 28)).ownsRow wX.heap.size 28 2 (.slice (some ⟨wX.heap.size, 0, none⟩) 1 1) (0 + 1) (flat ((ax, ay) :: (s.map (·.1)).take 0))) := Lib.hid (own_two (heap_new wX (.cells #[.int .i64 ax, .int .i64 ay] 28) _ rfl) (Nat.le_refl _) rfl rfl)
          have GX := Lib.hid (Grows.alloc wX (.cells #[.int .i64 ax, .int .i64 ay] 28))
          generalize wX.alloc (.cells #[.int .i64 ax, .int .i64 ay] 28) = wl at HA0 GX ⊢
          clear a0 a1 b0 b1
          go_loopw [16, 17] (fun o' i wr => ∃ (k : Nat) (o : Value), k ≤ m ∧ o = o' ∧ i = .int .i64 (k : Int) ∧ Hid (wr.ownsRow wX.heap.size 28 2 o (k + 1) (flat ((ax, ay) :: (s.map (·.1)).take k))) ∧ Hid (Grows wX wr)) (fun _ i _ => m - (intOf i).toNat)
          case atStart => exact ⟨0, _, Nat.zero_le _, rfl, rfl, HA0, GX⟩
          case round =>
            clear HA0 GX
            obtain ⟨k, o, hk, rfl, rfl, HA, GX⟩ := hrel
            by_cases hlt : k < m
            · obtain ⟨g, rfl⟩ := HAS.out (by omega)
              have hltz : (k : Int) < (m : Int) := by omega
              obtain ⟨f0, f1, f2, f3⟩ := own4_cells (ownsRow_grows HO.out GX.out) HM.out.symm hlt
              have HTK : Hid ((s.map (·.1)).take (k + 1) = (s.map (·.1)).take k ++ [s[k]!.1]) := Lib.hid (by
                have hks : k < s.length := by rw [← HM.out]; exact hlt
                rw [List.take_succ_eq_append_getElem (by rw [List.length_map]; exact hks), List.getElem_map, getElem!_pos s k hks])
              generalize s[k]! = z at f0 f1 f2 f3 HTK
              obtain ⟨⟨px, py⟩, pf, pd⟩ := z
              simp only at f0 f1 f2 f3 HTK
              go_wp2_with (at_builtin; go_loud (refine append_row2 rfl _ _ 30 rfl wX.heap.size 28 i0 _ 2 16 Try.underlying30 hi0 hz0 hz1 hz2 rfl (by decide) o (k + 1) (flat ((ax, ay) :: (s.map (·.1)).take k)) rfl (ownsRow_grows HA.out (Grows.alloc _ _)) 1 [.int .i64 px, .int .i64 py] _ rfl (row_two (heap_new wr (.cells #[.int .i64 px, .int .i64 py] 28) _ rfl) rfl rfl) (by unfold maxLen; omega) (by omega) (GX.out.al _).size ?_; intro o2 wd hown hgr; have HA2 := Lib.hid hown; have GX2 := Lib.hid (grown_all (ownsRow_grows HA.out (Grows.alloc _ _)) (GX.out.al _) hgr); clear hown hgr))
              exact ⟨⟨k + 1, o2, by omega, rfl, by simp, Lib.hid (by rw [HTK.out, ← List.cons_append, flat_append]; exact HA2.out), GX2⟩, by simp only [intOf]; omega⟩
            · obtain rfl : k = m := by omega
              have HAF : Hid (flat (allF (ax, ay) (bx, b_y) (s.map (·.1))) = flat ((ax, ay) :: (s.map (·.1)).take k) ++ [.int .i64 bx, .int .i64 b_y]) := Lib.hid (by
                rw [List.take_of_length_le (by rw [List.length_map, HM.out]; exact Nat.le_refl _)]; simp [allF, flat])
              have HAL : Hid ((allF (ax, ay) (bx, b_y) (s.map (·.1))).length = k + 2) := Lib.hid (by rw [allF_len, List.length_map, HM.out])
              have HAD : Hid ((allF (ax, ay) (bx, b_y) (s.map (·.1))).drop 1 = s.map (·.1) ++ [(bx, b_y)]) := Lib.hid rfl
              rw [← HAD.out] at HDD
              generalize allF (ax, ay) (bx, b_y) (s.map (·.1)) = A at HAF HAL HDD
              clear HAD HO HAS
              obtain ⟨⟨a0, a1, -, -⟩, ⟨b0, b1, -, -⟩⟩ := HF.out _ (HG.out.trans GX.out)
              go_upto_region 22 with (at_builtin; go_loud (refine append_row2 rfl _ _ 30 rfl wX.heap.size 28 i0 _ 2 16 Try.underlying30 hi0 hz0 hz1 hz2 rfl (by decide) o (k + 1) _ rfl (ownsRow_grows HA.out (Grows.alloc _ _)) 1 [.int .i64 bx, .int .i64 b_y] _ rfl (row_two (heap_new wr (.cells #[.int .i64 bx, .int .i64 b_y] 28) _ rfl) rfl rfl) (by unfold maxLen; omega) (by omega) (GX.out.al _).size ?_; intro o2 wY hown hgr; have PA : Hid (PtsAt wY o2 A) := Lib.hid (own_pts (l := A) (by rw [HAF.out]; exact hown) (by rw [HAL.out]) (by rw [HAL.out]; omega)); have GY := Lib.hid (HG.out.trans (grown_all (ownsRow_grows HA.out (Grows.alloc _ _)) (GX.out.al _) hgr)); clear hown hgr))
              clear a0 a1 b0 b1 HA HAF GX
              obtain ⟨⟨a0, a1, -, -⟩, -⟩ := HF.out _ GY.out
              obtain ⟨aA, cA, rfl, hcA, -⟩ := PA.out.shape
              obtain ⟨n, hn⟩ : ∃ n, n = A.length := ⟨_, rfl⟩
              rw [← hn] at hcA PA HAL ⊢
              have HN := Lib.hid hn
              have hn42 : n ≤ 42 := by have := HAL.out; omega
              have hn2 : 1 ≤ n := by have := HAL.out; omega
              clear hn HAL
              go_wp2
              have HO0 : Hid ((wY.alloc (.cells #[.int .i64 ax, .int .i64 ay] 28)).ownsRow wY.heap.size 28 2 (.slice (some ⟨wY.heap.size, 0, none⟩) 1 1) (([] : List Pt).length + 1) (flat ([] ++ [(ax, ay)]))) := Lib.hid (own_two (heap_new wY (.cells #[.int .i64 ax, .int .i64 ay] 28) _ rfl) (Nat.le_refl _) rfl rfl)
              have GO := Lib.hid (Grows.alloc wY (.cells #[.int .i64 ax, .int .i64 ay] 28))
              generalize wY.alloc (.cells #[.int .i64 ax, .int .i64 ay] 28) = wz at HO0 GO ⊢
              clear a0 a1
              go_loopw [18, 19] (fun o' i wr => ∃ (k : Nat) (o : Value) (acc : List Pt) (lx ly : Int), k ≤ n ∧ o = o' ∧ i = .int .i64 (k : Int) ∧ acc.length + 1 ≤ k ∧ Hid (wr.ownsRow wY.heap.size 28 2 o (acc.length + 1) (flat (acc ++ [(lx, ly)]))) ∧ Hid (Grows wY wr) ∧ Hid ((acc ++ [(lx, ly)]) ++ dd (lx, ly) (A.drop k) = (ax, ay) :: dd (ax, ay) (A.drop 1))) (fun _ i _ => n - (intOf i).toNat)
              case atStart => exact ⟨1, _, [], ax, ay, hn2, rfl, rfl, Nat.le_refl _, HO0, GO, Lib.hid rfl⟩
              case round =>
                clear HO0 GO
                obtain ⟨j, o, acc, lx, ly, hj, rfl, rfl, hac, HO, GO, HQ⟩ := hrel
                obtain ⟨M, hM⟩ : ∃ M, M = acc.length := ⟨_, rfl⟩
                rw [← hM] at hac HO
                have PO : Hid (PtsAt wr o (acc ++ [(lx, ly)])) := Lib.hid (own_pts HO.out (by rw [List.length_append, hM]; rfl) (by rw [List.length_append, ← hM]; show M + 1 ≤ _; omega))
                have HLL : Hid ((acc ++ [(lx, ly)]).length = M + 1) := Lib.hid (by rw [List.length_append, hM]; rfl)
                by_cases hlt : j < n
                · have hltz : (j : Int) < (n : Int) := by omega
                  obtain ⟨bA, fA, rfl, hbA, -, -⟩ := PA.out.at_ (i := j) (by rw [← HN.out]; exact hlt)
                  obtain ⟨u1, u2⟩ := (PA.out.grows GO.out).at_cell (i := j) (by rw [← HN.out]; exact hlt)
                  obtain ⟨g, cO, rfl, hcO⟩ : ∃ g cO, o = .slice (some ⟨g, 0, none⟩) (M + 1) cO ∧ M + 1 ≤ cO := by
                    obtain ⟨-, ⟨hv, h0⟩ | ⟨g, cap, cur, hv, -, -, hc, -⟩⟩ := HO.out
                    · cases h0
                    · exact ⟨g, cap, hv, hc⟩
                  obtain ⟨M1, hM1⟩ : ∃ M1, M1 = M + 1 := ⟨_, rfl⟩
                  rw [← hM1] at HO PO hcO ⊢
                  have hj0 := PA.out.at_cell (i := j) (by rw [← HN.out]; exact hlt)
                  have hjA : j < A.length := by rw [← HN.out]; exact hlt
                  obtain ⟨v1, v2⟩ := PO.out.at_cell (i := M) (by rw [HLL.out]; omega)
                  rw [show (acc ++ [(lx, ly)]).getD M (0, 0) = (lx, ly) by rw [hM, List.getD_eq_getElem?_getD, List.getElem?_append_right (Nat.le_refl _)]; simp] at v1 v2
                  rw [Nat.zero_add] at v1 v2
                  have HDK : Hid (A.drop j = A.getD j (0, 0) :: A.drop (j + 1)) := Lib.hid (by rw [List.drop_eq_getElem_cons (by rw [← HN.out]; exact hlt), List.getD_eq_getElem?_getD, List.getElem?_eq_getElem (by rw [← HN.out]; exact hlt)]; rfl)
                  rw [HDK.out] at HQ
                  clear HDK
                  obtain ⟨⟨px, py⟩, hzA⟩ : ∃ z, A.getD j (0, 0) = z := ⟨_, rfl⟩
                  rw [hzA] at u1 u2 HQ
                  simp only at u1 u2 v1 v2
                  have hm1 : (M1 : Int) - 1 = (M : Int) := by omega
                  have hMM : M < M1 := by omega
                  have HWM : Hid (IntKind.i64.wrap ((M1 : Int) - 1) = (M : Int)) := Lib.hid (by rw [hm1]; exact wrap_small (by omega))
                  have HCC : Hid (∀ w', Grows wr w' → _) := Lib.hid (fun w' (hg : Grows wr w') => And.intro (And.intro ((Below.cell hg (p := ⟨bA, fA + j * 2, none⟩) (Nat.lt_of_lt_of_le hbA GO.out.size)).trans u1) ((Below.cell hg (p := ⟨bA, fA + j * 2 + 1, none⟩) (Nat.lt_of_lt_of_le hbA GO.out.size)).trans u2)) (And.intro ((Below.cell hg (p := ⟨g, M * 2, none⟩) (cell_lt v1)).trans v1) ((Below.cell hg (p := ⟨g, M * 2 + 1, none⟩) (cell_lt v2)).trans v2)))
                  have HMA := Lib.hid hM
                  have HM1 := Lib.hid hM1
                  have hM43 : M1 ≤ 43 := by omega
                  clear PO HLL hM hM1 hj0
                  clear HN
                  go_wp2_with fail
                  refine wp_region_tab 11 (by kernel_rfl) (by kernel_rfl) ?_
                  intro w0 hw0 hg1 hg1'
                  simp only [List.take_succ_cons, List.take_zero, List.drop_succ_cons, List.drop_zero]
                  refine tab_val (.slice (some ⟨bA, fA, none⟩) n cA) (fun r w1 hr hg hA => by obtain ⟨q0, -⟩ := hA; have q0e : r (.tmp 16) = .slice (some ⟨bA, fA, none⟩) n cA := q0; exact ⟨rfl, by simp [go_sem, q0e]⟩) ?_
                  refine tab_val (.int .i64 (j : Int)) (fun r w1 hr hg hA => by obtain ⟨q0, -⟩ := hA; have q0e : r (.tmp 19) = .int .i64 (j : Int) := q0; exact ⟨rfl, by simp [go_sem, q0e]⟩) ?_
                  refine tab_val (.pointer (some ⟨bA, fA + j * 2, none⟩)) (fun r w1 hr hg hA => by obtain ⟨⟨_, q0⟩, ⟨_, q1⟩, -⟩ := hA; have q0e : r (.tmp 148) = .slice (some ⟨bA, fA, none⟩) n cA := q0; have q1e : r (.tmp 149) = .int .i64 (j : Int) := q1; exact ⟨rfl, by simp [go_sem, q0e, q1e, hlt]⟩) ?_
                  refine tab_val (.agg #[.int .i64 px, .int .i64 py]) (fun r w1 hr hg hA => by obtain ⟨⟨_, q0⟩, -⟩ := hA; have q0e : r (.tmp 150) = .pointer (some ⟨bA, fA + j * 2, none⟩) := q0; have hc := HCC.out w1 (hg1.trans hg); exact ⟨rfl, by simp [go_sem, q0e, hc]⟩) ?_
                  refine tab_val (.slice (some ⟨g, 0, none⟩) M1 cO) (fun r w1 hr hg hA => by obtain ⟨q0, -⟩ := hA; have q0e : r (.tmp 18) = .slice (some ⟨g, 0, none⟩) M1 cO := q0; exact ⟨rfl, by simp [go_sem, q0e]⟩) ?_
                  refine tab_val (.slice (some ⟨g, 0, none⟩) M1 cO) (fun r w1 hr hg hA => by obtain ⟨q0, -⟩ := hA; have q0e : r (.tmp 18) = .slice (some ⟨g, 0, none⟩) M1 cO := q0; exact ⟨rfl, by simp [go_sem, q0e]⟩) ?_
                  refine tab_val (.int .i64 (M1 : Int)) (fun r w1 hr hg hA => by obtain ⟨⟨_, q0⟩, -⟩ := hA; have q0e : r (.tmp 153) = .slice (some ⟨g, 0, none⟩) M1 cO := q0; exact ⟨rfl, by simp [go_sem, q0e]⟩) ?_
                  refine tab_val (.int .i64 (M : Int)) (fun r w1 hr hg hA => by obtain ⟨⟨_, q0⟩, -⟩ := hA; have q0e : r (.tmp 154) = .int .i64 (M1 : Int) := q0; exact ⟨rfl, by simp [go_sem, hr.const, q0e, HWM.out]⟩) ?_
                  refine tab_val (.pointer (some ⟨g, M * 2, none⟩)) (fun r w1 hr hg hA => by obtain ⟨⟨_, q0⟩, ⟨_, q1⟩, -⟩ := hA; have q0e : r (.tmp 152) = .slice (some ⟨g, 0, none⟩) M1 cO := q0; have q1e : r (.tmp 155) = .int .i64 (M : Int) := q1; exact ⟨rfl, by simp [go_sem, q0e, q1e, hMM]⟩) ?_
                  refine tab_val (.agg #[.int .i64 lx, .int .i64 ly]) (fun r w1 hr hg hA => by obtain ⟨⟨_, q0⟩, -⟩ := hA; have q0e : r (.tmp 156) = .pointer (some ⟨g, M * 2, none⟩) := q0; have hc := HCC.out w1 (hg1.trans hg); exact ⟨rfl, by simp [go_sem, q0e, hc]⟩) ?_
                  refine tab_val (.bool (!eqP px py lx ly)) (fun r w1 hr hg hA => by obtain ⟨⟨_, q0⟩, ⟨_, q1⟩, -⟩ := hA; have q0e : r (.tmp 151) = .agg #[.int .i64 px, .int .i64 py] := q0; have q1e : r (.tmp 157) = .agg #[.int .i64 lx, .int .i64 ly] := q1; exact ⟨rfl, by simp [go_sem, q0e, q1e, neIf2]⟩) ?_
                  refine tab_end ?_
                  simp only [List.reverse_cons, List.reverse_nil, List.nil_append, List.cons_append, Out, BlockP, forall_eq, forall_const, Act.put, List.setIfInBounds_toArray, List.set_cons_succ, List.set_cons_zero]

                  intro wc hgA
                  have GC := Lib.hid (hg1.trans hgA)
                  clear hg1 hgA hg1' hw0
                  cases he : eqP px py lx ly with
                  | true =>
                    have he2 : px = lx ∧ py = ly := by unfold eqP at he; simpa using he
                    obtain ⟨rfl, rfl⟩ := he2
                    go_wp2
                    exact ⟨⟨j + 1, _, acc, px, py, by omega, rfl, by simp, by rw [← HMA.out]; omega, Lib.hid (ownsRow_grows (by rw [← HMA.out, ← HM1.out]; exact HO.out) GC.out), Lib.hid (GO.out.trans GC.out), Lib.hid (by rw [← HQ.out, dd, if_pos rfl])⟩, by simp only [intOf]; omega⟩
                  | false =>
                    have he2 : ¬ ((px, py) : Pt) = (lx, ly) := fun h => by injection h with h1 h2; unfold eqP at he; simp [h1, h2] at he
                    obtain ⟨u1, u2⟩ := (PA.out.grows (GO.out.trans GC.out)).at_cell (i := j) hjA
                    rw [hzA] at u1 u2
                    simp only at u1 u2
                    have HO2 := Lib.hid (ownsRow_grows HO.out GC.out)
                    have GO2 := Lib.hid (GO.out.trans GC.out)
                    go_wp2_with (at_builtin; go_loud (refine append_row2 rfl _ _ 30 rfl wY.heap.size 28 i0 _ 2 16 Try.underlying30 hi0 hz0 hz1 hz2 rfl (by decide) _ M1 (flat (acc ++ [(lx, ly)])) rfl (ownsRow_grows HO2.out (Grows.alloc _ _)) 1 [.int .i64 px, .int .i64 py] _ rfl (row_two (heap_new wc (.cells #[.int .i64 px, .int .i64 py] 28) _ rfl) rfl rfl) (by unfold maxLen; omega) (by omega) (GO2.out.al _).size ?_; intro o2 wd hown hgr; have HO3 := Lib.hid hown; have GO3 := Lib.hid (grown_all (ownsRow_grows HO2.out (Grows.alloc _ _)) (GO2.out.al _) hgr); clear hown hgr))
                    exact ⟨⟨j + 1, o2, acc ++ [(lx, ly)], px, py, by omega, rfl, by simp, by rw [List.length_append, ← HMA.out]; show M + 1 + 1 ≤ _; omega, Lib.hid (by rw [flat_append, List.length_append, ← HMA.out, show M + [(lx, ly)].length + 1 = M1 + 1 by rw [HM1.out]; rfl]; exact HO3.out), GO3, Lib.hid (by rw [← HQ.out, dd, if_neg he2]; simp)⟩, by simp only [intOf]; omega⟩
                · obtain rfl : j = n := by omega
                  have HQ2 : Hid (acc ++ [(lx, ly)] = (ax, ay) :: dd (ax, ay) (A.drop 1)) := Lib.hid (by rw [← HQ.out, List.drop_eq_nil_of_le (by rw [← HN.out]; exact Nat.le_refl _)]; simp [dd])
                  rw [← HQ2.out, HLL.out] at HDD
                  obtain ⟨g, cO, rfl, hcO⟩ : ∃ g cO, o = .slice (some ⟨g, 0, none⟩) (M + 1) cO ∧ M + 1 ≤ cO := by
                    obtain ⟨-, ⟨hv, h0⟩ | ⟨g, cap, cur, hv, -, -, hc, -⟩⟩ := HO.out
                    · cases h0
                    · exact ⟨g, cap, hv, hc⟩
                  obtain ⟨M1, hM1⟩ : ∃ M1, M1 = M + 1 := ⟨_, rfl⟩
                  rw [← hM1] at HO PO hcO HDD ⊢
                  by_cases h3 : M1 < 3
                  · have hz : L = [] := HDD.out.1 h3
                    subst hz
                    have h3z : (M1 : Int) < 3 := by omega
                    clear hM1 hM
                    go_wp2
                    go_ret
                    exact ⟨_, rfl, pts_nil _, G.out.trans (GY.out.trans GO.out)⟩
                  · obtain ⟨hl1, hl2⟩ := HDD.out.2 h3
                    have h3z : ¬ (M1 : Int) < 3 := by omega
                    have e1 : (M1 : Int) - 1 = (M : Int) := by omega
                    have h1c : ¬ cO = 1 := by omega
                    have hM1z : (1 : Int) ≤ (M : Int) := by omega
                    have hMc : M ≤ cO := by omega
                    have HM1 := Lib.hid hM1
                    have HMA := Lib.hid hM
                    have HL1 := Lib.hid hl1
                    have HL2 := Lib.hid hl2
                    clear hM1 hM hl1 hl2
                    go_wp2
                    go_ret
                    refine ⟨_, rfl, ?_, G.out.trans (GY.out.trans GO.out)⟩
                    have h1 := (PO.out.drop (j := 1) (by omega)).take (j := M - 1) (by omega)
                    have e2 : M - 1 = L.length := by have := HM1.out; have := HL1.out; omega
                    rw [e2] at h1 ⊢
                    rw [HL2.out] at h1
                    exact h1
end Go.Proofs.Ytlgplhanhnjeiaa
