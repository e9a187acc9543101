/-
  Layer 2: the cuts by all lines, as they are told.
-/
import Derived.Test.YtlgplhanhnjeiaaS7
import Derived.Test.YtlgplhanhnjeiaaIa
namespace Go.Proofs.Ytlgplhanhnjeiaa
open Go.RowKit Go.Tab

theorem infoC : (Try.prog.info? 61).map (fun i => (i.zero, i.size, i.bytes)) = some (some (.agg #[.int .i64 0, .int .i64 0, .int .i64 0, .int .i64 0]), 4, 32) := by kernel_rfl
/-- A cut: the point, how far, of what. -/
abbrev Cut := Pt × Int × Int
def absI (n : Int) : Int := if 0 ≤ n then n else -n
def cutX (a b : Pt) (c : Int) : Option Cut := if (atX a b c).2 = true then some ((c, (atX a b c).1), absI (c - a.1), absI (b.1 - a.1)) else none
def cutY (a b : Pt) (c : Int) : Option Cut := if (atY a b c).2 = true then some (((atY a b c).1, c), absI (c - a.2), absI (b.2 - a.2)) else none
def cutsF (a b : Pt) (xs ys : List Int) : List Cut := xs.filterMap (cutX a b) ++ ys.filterMap (cutY a b)
def ccells (l : List Cut) : List Value := l.flatMap fun c => [.int .i64 c.1.1, .int .i64 c.1.2, .int .i64 c.2.1, .int .i64 c.2.2]
theorem ccells_snoc (l : List Cut) (c : Cut) : ccells (l ++ [c]) = ccells l ++ [.int .i64 c.1.1, .int .i64 c.1.2, .int .i64 c.2.1, .int .i64 c.2.2] := by simp [ccells]
theorem take_snocI {l : List Int} {k : Nat} (h : k < l.length) : l.take (k + 1) = l.take k ++ [l.getD k 0] := by
  rw [List.take_succ_eq_append_getElem h, List.getD_eq_getElem?_getD, List.getElem?_eq_getElem h]; rfl
theorem atF_in {px py qx qy c : Int} (h : (atF px py qx qy c).2 = true) : mayB px py = true ∧ mayB qx qy = true ∧ px < c ∧ c < qx := by
  unfold atF at h
  split at h
  · cases h
  · rename_i h1
    have hm : rightB [(px, py), (qx, qy)] = true := by cases hb : rightB [(px, py), (qx, qy)] with | true => rfl | false => exact absurd (.inl hb) h1
    simp only [rightB, List.all_cons, List.all_nil, Bool.and_true, Bool.and_eq_true] at hm
    exact ⟨hm.1, hm.2, by omega, by omega⟩
/-- What is told of a cut is small. -/
theorem atX_bd {a b : Pt} {c : Int} (h : (atX a b c).2 = true) : (-33554432 ≤ c - a.1 ∧ c - a.1 ≤ 33554432) ∧ (-33554432 ≤ b.1 - a.1 ∧ b.1 - a.1 ≤ 33554432) ∧ (-16777216 ≤ c ∧ c ≤ 16777216 ∧ -16777216 ≤ a.1 ∧ a.1 ≤ 16777216 ∧ -16777216 ≤ b.1 ∧ b.1 ≤ 16777216) := by
  unfold atX at h
  split at h
  · obtain ⟨h1, h2, h3, h4⟩ := atF_in h
    have := mayB_iff.1 h1
    have := mayB_iff.1 h2
    omega
  · obtain ⟨h1, h2, h3, h4⟩ := atF_in h
    have := mayB_iff.1 h1
    have := mayB_iff.1 h2
    omega
theorem atx_bd {ax ay bx b_y c : Int} (h : (atX (ax, ay) (bx, b_y) c).2 = true) : (-33554432 ≤ c - ax ∧ c - ax ≤ 33554432) ∧ (-33554432 ≤ bx - ax ∧ bx - ax ≤ 33554432) := ⟨(atX_bd h).1, (atX_bd h).2.1⟩
theorem aty_bd {ax ay bx b_y c : Int} (h : (atY (ax, ay) (bx, b_y) c).2 = true) : (-33554432 ≤ c - ay ∧ c - ay ≤ 33554432) ∧ (-33554432 ≤ b_y - ay ∧ b_y - ay ≤ 33554432) := ⟨(atX_bd (a := (ay, ax)) (b := (b_y, bx)) h).1, (atX_bd (a := (ay, ax)) (b := (b_y, bx)) h).2.1⟩
theorem wrap_small {n : Int} (h : -33554432 ≤ n ∧ n ≤ 33554432) : IntKind.i64.wrap n = n := by
  simp [IntKind.wrap, IntKind.bits, IntKind.signed]; omega

set_option maxRecDepth 100000 in
set_option maxHeartbeats 8000000 in
theorem cuts_any (a b : Pt) (v u : Value) (xs ys : List Int) (w : World) (hx : IntsAt w v xs) (hy : IntsAt w u ys) (hlx : xs.length ≤ 1000) (hly : ys.length ≤ 1000) :
    Calls Try.prog 29 #[pp a, pp b, v, u] w (fun e w' => ∃ o, e = .returned o ∧ w'.ownsRow w.heap.size 61 4 o (cutsF a b xs ys).length (ccells (cutsF a b xs ys)) ∧ Grows w w') := by
  obtain ⟨i0, hi0, hz0, hz1, hz2⟩ := info_parts infoC
  obtain ⟨av, cv, rfl, hnv, -⟩ := hx.shape
  obtain ⟨au, cu, rfl, hnu, -⟩ := hy.shape
  have HXS := Lib.hid hx
  have HYS := Lib.hid hy
  have HX := Lib.hid (fun c => atx_any a b c)
  have HY := Lib.hid (fun c => aty_any a b c)
  obtain ⟨nx, hnx⟩ : ∃ n, n = xs.length := ⟨_, rfl⟩
  obtain ⟨ny, hny⟩ : ∃ n, n = ys.length := ⟨_, rfl⟩
  rw [← hnx] at hlx hnv HXS ⊢
  rw [← hny] at hly hnu HYS ⊢
  have HNX := Lib.hid hnx
  have HNY := Lib.hid hny
  clear hx hy hnx hny
  obtain ⟨ax, ay⟩ := a
  obtain ⟨bx, b_y⟩ := b
  unfold pp at HX HY ⊢
  simp only at HX HY ⊢
  go_enter Try.func29, Try.ntmps29
  go_wp2_with fail
  have B3 := Lib.hid ((Grows.alloc _ (.cells #[.int .i64 bx, .int .i64 b_y] 23)).block (heap_new w (.cells #[.int .i64 ax, .int .i64 ay] 23) _ rfl))
  have B4 := Lib.hid (heap_new (w.alloc (.cells #[.int .i64 ax, .int .i64 ay] 23)) (.cells #[.int .i64 bx, .int .i64 b_y] 23) (w.heap.size + 1) (by simp))
  have G := Lib.hid (((Grows.refl w).al (.cells #[.int .i64 ax, .int .i64 ay] 23)).al (.cells #[.int .i64 bx, .int .i64 b_y] 23))
  generalize (w.alloc (.cells #[.int .i64 ax, .int .i64 ay] 23)).alloc (.cells #[.int .i64 bx, .int .i64 b_y] 23) = wq at B3 B4 G ⊢
  have HF : Hid (∀ w', Grows wq w' → _) := Lib.hid (fun w' (hg : Grows wq w') => And.intro (cells2 (hg.block B3.out)) (cells2 (hg.block B4.out)))
  go_loopw [9, 20] (fun o' i wr => ∃ (k : Nat) (o : Value), k ≤ nx ∧ o = o' ∧ i = .int .i64 (k : Int) ∧ Hid (wr.ownsRow wq.heap.size 61 4 o ((xs.take k).filterMap (cutX (ax, ay) (bx, b_y))).length (ccells ((xs.take k).filterMap (cutX (ax, ay) (bx, b_y))))) ∧ Hid (Grows wq wr)) (fun _ i _ => nx - (intOf i).toNat)
  case atStart => exact ⟨0, _, Nat.zero_le _, rfl, rfl, Lib.hid (World.ownsRow_nil _ _ _ _), Lib.hid (Grows.refl _)⟩
  case round =>
    obtain ⟨k, o, hk, rfl, rfl, HO, HG⟩ := hrel
    by_cases hlt : k < nx
    · obtain ⟨ba, oa, rfl, hba, hc⟩ := (HXS.out.grows (G.out.trans HG.out)).at_ (i := k) (by rw [← HNX.out]; exact hlt)
      have HSN := Lib.hid (take_snocI (l := xs) (k := k) (by rw [← HNX.out]; exact hlt))
      have HLF : Hid (((xs.take k).filterMap (cutX (ax, ay) (bx, b_y))).length ≤ 2000) := Lib.hid (by have := List.length_filterMap_le (cutX (ax, ay) (bx, b_y)) (xs.take k); rw [List.length_take] at this; omega)
      generalize xs.getD k 0 = c at hc HSN
      have HFM : Hid (((xs.take (k + 1)).filterMap (cutX (ax, ay) (bx, b_y))) = ((xs.take k).filterMap (cutX (ax, ay) (bx, b_y))) ++ (cutX (ax, ay) (bx, b_y) c).toList) := Lib.hid (by rw [HSN.out, List.filterMap_append]; cases hcc : cutX (ax, ay) (bx, b_y) c <;> simp [hcc])
      generalize (xs.take k).filterMap (cutX (ax, ay) (bx, b_y)) = L at HO HLF HFM
      have HCA := Lib.hid (HX.out c)
      have HBD : Hid ((atX (ax, ay) (bx, b_y) c).2 = true → _) := Lib.hid (fun h => atx_bd h)
      have HCC : Hid (cutX (ax, ay) (bx, b_y) c = if (atX (ax, ay) (bx, b_y) c).2 = true then some (((c, (atX (ax, ay) (bx, b_y) c).1) : Pt), absI (c - ax), absI (bx - ax)) else none) := Lib.hid rfl
      generalize (atX (ax, ay) (bx, b_y) c).1 = y at HCA HCC
      generalize (atX (ax, ay) (bx, b_y) c).2 = ok at HCA HCC HBD
      obtain ⟨⟨a0, a1, -, -⟩, ⟨b0, b1, -, -⟩⟩ := HF.out _ HG.out
      go_wp2_with fail
      refine (HCA.out _).mono ?_
      rintro _ wb ⟨rfl, hg⟩
      have HO1 := Lib.hid (ownsRow_grows HO.out hg)
      have HG1 := Lib.hid (HG.out.trans hg)
      clear hg HO HG a0 a1 b0 b1 hc
      have HO := HO1
      have HG := HG1
      clear HO1 HG1
      cases ok with
      | false =>
        have HE : Hid (cutX (ax, ay) (bx, b_y) c = none) := Lib.hid (by rw [HCC.out]; rfl)
        go_wp2
        exact ⟨⟨k + 1, o, by omega, rfl, by simp, Lib.hid (by rw [HFM.out, HE.out]; simpa using HO.out), HG⟩, by simp only [intOf]; omega⟩
      | true =>
        obtain ⟨d1, d2⟩ := HBD.out rfl
        have HW1 := Lib.hid (wrap_small d1)
        have HW2 := Lib.hid (wrap_small d2)
        have HA1 := Lib.hid (fun w => show Calls Try.prog 41 #[.int .i64 (c - ax)] w (Ret (.int .i64 (absI (c - ax))) w) from abs_any (c - ax) w (by omega) (by omega))
        have HA2 := Lib.hid (fun w => show Calls Try.prog 41 #[.int .i64 (bx - ax)] w (Ret (.int .i64 (absI (bx - ax))) w) from abs_any (bx - ax) w (by omega) (by omega))
        have HE : Hid (cutX (ax, ay) (bx, b_y) c = some (((c, y) : Pt), absI (c - ax), absI (bx - ax))) := Lib.hid (by rw [HCC.out]; rfl)
        clear HCC HCA HBD d1 d2
        generalize absI (c - ax) = f at HA1 HE
        generalize absI (bx - ax) = d at HA2 HE
        rw [HE.out] at HFM
        clear HE
        go_wp2_with fail
        refine wp_region_tab 17 (by kernel_rfl) (by kernel_rfl) ?_
        intro w0 hw0 hg1 hg1'
        simp only [List.take_succ_cons, List.take_zero, List.drop_succ_cons, List.drop_zero]
        refine tab_val (o) (fun r w1 hr hg hA => by obtain ⟨q0, -⟩ := hA; have q0e : r (.tmp 9) = o := q0; exact ⟨rfl, by simp [go_sem, q0e]⟩) ?_
        refine tab_val (.int .i64 c) (fun r w1 hr hg hA => by obtain ⟨q0, -⟩ := hA; have q0e : r (.tmp 11) = .int .i64 c := q0; exact ⟨rfl, by simp [go_sem, q0e]⟩) ?_
        refine tab_val (.int .i64 y) (fun r w1 hr hg hA => by obtain ⟨q0, -⟩ := hA; have q0e : r (.tmp 12) = .int .i64 y := q0; exact ⟨rfl, by simp [go_sem, q0e]⟩) ?_
        refine tab_val (.agg #[.int .i64 c, .int .i64 y]) (fun r w1 hr hg hA => by obtain ⟨⟨_, q0⟩, ⟨_, q1⟩, -⟩ := hA; have q0e : r (.tmp 33) = .int .i64 c := q0; have q1e : r (.tmp 34) = .int .i64 y := q1; exact ⟨rfl, by simp [go_sem, q0e, q1e]⟩) ?_
        refine tab_val (.int .i64 c) (fun r w1 hr hg hA => by obtain ⟨q0, -⟩ := hA; have q0e : r (.tmp 11) = .int .i64 c := q0; exact ⟨rfl, by simp [go_sem, q0e]⟩) ?_
        refine tab_val (.pointer (some ⟨w.heap.size, 0, none⟩)) (fun r w1 hr hg hA => by obtain ⟨q0, -⟩ := hA; have q0e : r (.tmp 4) = .pointer (some ⟨w.heap.size, 0, none⟩) := q0; exact ⟨rfl, by simp [go_sem, q0e]⟩) ?_
        refine tab_val (.int .i64 ax) (fun r w1 hr hg hA => by obtain ⟨⟨_, q0⟩, -⟩ := hA; have q0e : r (.tmp 37) = .pointer (some ⟨w.heap.size, 0, none⟩) := q0; have hc := HF.out w1 (HG.out.trans (hg1.trans hg)); exact ⟨rfl, by simp [go_sem, q0e, hc]⟩) ?_
        refine tab_val (.int .i64 (c - ax)) (fun r w1 hr hg hA => by obtain ⟨⟨_, q0⟩, ⟨_, q1⟩, -⟩ := hA; have q0e : r (.tmp 36) = .int .i64 c := q0; have q1e : r (.tmp 38) = .int .i64 ax := q1; exact ⟨rfl, by simp [go_sem, q0e, q1e, HW1.out]⟩) ?_
        refine tab_call (v := .int .i64 f) (fun w1 hg => HA1.out w1) (fun r w1 hr hg hA => by obtain ⟨⟨_, q0⟩, -⟩ := hA; have q0e : r (.tmp 39) = .int .i64 (c - ax) := q0; exact ⟨rfl, by simp [go_sem, hr.func, q0e]⟩) ?_
        refine tab_val (.pointer (some ⟨w.heap.size + 1, 0, none⟩)) (fun r w1 hr hg hA => by obtain ⟨q0, -⟩ := hA; have q0e : r (.tmp 5) = .pointer (some ⟨w.heap.size + 1, 0, none⟩) := q0; exact ⟨rfl, by simp [go_sem, q0e]⟩) ?_
        refine tab_val (.int .i64 bx) (fun r w1 hr hg hA => by obtain ⟨⟨_, q0⟩, -⟩ := hA; have q0e : r (.tmp 41) = .pointer (some ⟨w.heap.size + 1, 0, none⟩) := q0; have hc := HF.out w1 (HG.out.trans (hg1.trans hg)); exact ⟨rfl, by simp [go_sem, q0e, hc]⟩) ?_
        refine tab_val (.pointer (some ⟨w.heap.size, 0, none⟩)) (fun r w1 hr hg hA => by obtain ⟨q0, -⟩ := hA; have q0e : r (.tmp 4) = .pointer (some ⟨w.heap.size, 0, none⟩) := q0; exact ⟨rfl, by simp [go_sem, q0e]⟩) ?_
        refine tab_val (.int .i64 ax) (fun r w1 hr hg hA => by obtain ⟨⟨_, q0⟩, -⟩ := hA; have q0e : r (.tmp 43) = .pointer (some ⟨w.heap.size, 0, none⟩) := q0; have hc := HF.out w1 (HG.out.trans (hg1.trans hg)); exact ⟨rfl, by simp [go_sem, q0e, hc]⟩) ?_
        refine tab_val (.int .i64 (bx - ax)) (fun r w1 hr hg hA => by obtain ⟨⟨_, q0⟩, ⟨_, q1⟩, -⟩ := hA; have q0e : r (.tmp 42) = .int .i64 bx := q0; have q1e : r (.tmp 44) = .int .i64 ax := q1; exact ⟨rfl, by simp [go_sem, q0e, q1e, HW2.out]⟩) ?_
        refine tab_call (v := .int .i64 d) (fun w1 hg => HA2.out w1) (fun r w1 hr hg hA => by obtain ⟨⟨_, q0⟩, -⟩ := hA; have q0e : r (.tmp 45) = .int .i64 (bx - ax) := q0; exact ⟨rfl, by simp [go_sem, hr.func, q0e]⟩) ?_
        refine tab_val (.agg #[.int .i64 c, .int .i64 y, .int .i64 f, .int .i64 d]) (fun r w1 hr hg hA => by obtain ⟨⟨_, q0⟩, ⟨_, q1⟩, ⟨_, q2⟩, -⟩ := hA; have q0e : r (.tmp 35) = .agg #[.int .i64 c, .int .i64 y] := q0; have q1e : r (.tmp 40) = .int .i64 f := q1; have q2e : r (.tmp 46) = .int .i64 d := q2; exact ⟨rfl, by simp [go_sem, q0e, q1e, q2e]⟩) ?_
        refine tab_block (.cells #[.int .i64 c, .int .i64 y, .int .i64 f, .int .i64 d] 61 (0, 0)) (fun b => .slice (some ⟨b, 0, none⟩) 1 1) (fun r w1 hr hg hA => by obtain ⟨⟨_, q0⟩, -⟩ := hA; have q0e : r (.tmp 47) = .agg #[.int .i64 c, .int .i64 y, .int .i64 f, .int .i64 d] := q0; exact ⟨rfl, by simp [go_sem, q0e]⟩) ?_
        refine tab_end ?_
        simp only [List.reverse_cons, List.reverse_nil, List.nil_append, List.cons_append, Out, BlockP, forall_eq, forall_const, Act.put, List.setIfInBounds_toArray, List.set_cons_succ, List.set_cons_zero]
        rintro wc hgA u48 ⟨b48, rfl, hb48⟩
        have HO1 := Lib.hid (ownsRow_grows HO.out (hg1.trans hgA))
        have HG1 := Lib.hid (HG.out.trans (hg1.trans hgA))
        have HB8 := Lib.hid hb48
        clear hg1 hgA hg1' hw0 HO HG hb48
        go_wp2_with (at_builtin; go_loud (refine append_row2 rfl _ _ 57 rfl wq.heap.size 61 i0 _ 4 32 Try.underlying57 hi0 hz0 hz1 hz2 rfl (by decide) o L.length (ccells L) rfl HO1.out 1 [.int .i64 c, .int .i64 y, .int .i64 f, .int .i64 d] _ rfl (row_four HB8.out rfl rfl rfl rfl) (by have := HLF.out; unfold maxLen; omega) (by have := HLF.out; omega) HG1.out.size ?_; intro o2 wd hown hgr; have HO2 := Lib.hid hown; have HG2 : Hid (Grows wq wd) := Lib.hid (grown_all HO1.out HG1.out hgr); clear hown hgr HO1 HG1))
        exact ⟨⟨k + 1, o2, by omega, rfl, by simp, Lib.hid (by rw [HFM.out, Option.toList_some, ccells_snoc, List.length_append]; exact HO2.out), HG2⟩, by simp only [intOf]; omega⟩
    · obtain rfl : k = nx := by omega
      obtain ⟨F0, hF0⟩ : ∃ F0, F0 = (xs.take k).filterMap (cutX (ax, ay) (bx, b_y)) := ⟨_, rfl⟩
      have HFX : Hid (F0 = xs.filterMap (cutX (ax, ay) (bx, b_y))) := Lib.hid (by rw [hF0, List.take_of_length_le (by rw [HNX.out]; exact Nat.le_refl _)])
      have HF0 : Hid (F0.length ≤ 1000) := Lib.hid (by rw [hF0]; have := List.length_filterMap_le (cutX (ax, ay) (bx, b_y)) (xs.take k); rw [List.length_take] at this; omega)
      rw [← hF0] at HO
      clear hF0
      have HO0 := HO
      have HG0 := HG
      clear HO HG
      go_wp2_with fail
      obtain ⟨wo, hwo⟩ : ∃ wo : World, wo = wr := ⟨_, rfl⟩
      rw [← hwo] at HO0 HG0 ⊢
      clear hwo
      go_loopw [9, 53] (fun o' i wr => ∃ (k : Nat) (o : Value), k ≤ ny ∧ o = o' ∧ i = .int .i64 (k : Int) ∧ Hid (wr.ownsRow wq.heap.size 61 4 o (F0 ++ (ys.take k).filterMap (cutY (ax, ay) (bx, b_y))).length (ccells (F0 ++ (ys.take k).filterMap (cutY (ax, ay) (bx, b_y))))) ∧ Hid (Grows wq wr)) (fun _ i _ => ny - (intOf i).toNat)
      case atStart => exact ⟨0, _, Nat.zero_le _, rfl, rfl, Lib.hid (by simpa using HO0.out), HG0⟩
      case round =>
        obtain ⟨k, o, hk, rfl, rfl, HO, HG⟩ := hrel
        by_cases hlt : k < ny
        · obtain ⟨ba, oa, rfl, hba, hc⟩ := (HYS.out.grows (G.out.trans HG.out)).at_ (i := k) (by rw [← HNY.out]; exact hlt)
          have HSN := Lib.hid (take_snocI (l := ys) (k := k) (by rw [← HNY.out]; exact hlt))
          have HLF : Hid ((F0 ++ (ys.take k).filterMap (cutY (ax, ay) (bx, b_y))).length ≤ 2000) := Lib.hid (by have := List.length_filterMap_le (cutY (ax, ay) (bx, b_y)) (ys.take k); rw [List.length_take] at this; rw [List.length_append]; have := HF0.out; omega)
          generalize ys.getD k 0 = c at hc HSN
          have HFM : Hid ((F0 ++ (ys.take (k + 1)).filterMap (cutY (ax, ay) (bx, b_y))) = (F0 ++ (ys.take k).filterMap (cutY (ax, ay) (bx, b_y))) ++ (cutY (ax, ay) (bx, b_y) c).toList) := Lib.hid (by rw [HSN.out, List.filterMap_append]; cases hcc : cutY (ax, ay) (bx, b_y) c <;> simp [hcc])
          generalize F0 ++ (ys.take k).filterMap (cutY (ax, ay) (bx, b_y)) = L at HO HLF HFM
          have HCA := Lib.hid (HY.out c)
          have HBD : Hid ((atY (ax, ay) (bx, b_y) c).2 = true → _) := Lib.hid (fun h => aty_bd h)
          have HCC : Hid (cutY (ax, ay) (bx, b_y) c = if (atY (ax, ay) (bx, b_y) c).2 = true then some ((((atY (ax, ay) (bx, b_y) c).1, c) : Pt), absI (c - ay), absI (b_y - ay)) else none) := Lib.hid rfl
          generalize (atY (ax, ay) (bx, b_y) c).1 = y at HCA HCC
          generalize (atY (ax, ay) (bx, b_y) c).2 = ok at HCA HCC HBD
          obtain ⟨⟨a0, a1, -, -⟩, ⟨b0, b1, -, -⟩⟩ := HF.out _ HG.out
          go_wp2_with fail
          refine (HCA.out _).mono ?_
          rintro _ wb ⟨rfl, hg⟩
          have HO1 := Lib.hid (ownsRow_grows HO.out hg)
          have HG1 := Lib.hid (HG.out.trans hg)
          clear hg HO HG a0 a1 b0 b1 hc
          have HO := HO1
          have HG := HG1
          clear HO1 HG1
          cases ok with
          | false =>
            have HE : Hid (cutY (ax, ay) (bx, b_y) c = none) := Lib.hid (by rw [HCC.out]; rfl)
            go_wp2
            exact ⟨⟨k + 1, o, by omega, rfl, by simp, Lib.hid (by rw [HFM.out, HE.out]; simpa using HO.out), HG⟩, by simp only [intOf]; omega⟩
          | true =>
            obtain ⟨d1, d2⟩ := HBD.out rfl
            have HW1 := Lib.hid (wrap_small d1)
            have HW2 := Lib.hid (wrap_small d2)
            have HA1 := Lib.hid (fun w => show Calls Try.prog 41 #[.int .i64 (c - ay)] w (Ret (.int .i64 (absI (c - ay))) w) from abs_any (c - ay) w (by omega) (by omega))
            have HA2 := Lib.hid (fun w => show Calls Try.prog 41 #[.int .i64 (b_y - ay)] w (Ret (.int .i64 (absI (b_y - ay))) w) from abs_any (b_y - ay) w (by omega) (by omega))
            have HE : Hid (cutY (ax, ay) (bx, b_y) c = some (((y, c) : Pt), absI (c - ay), absI (b_y - ay))) := Lib.hid (by rw [HCC.out]; rfl)
            clear HCC HCA HBD d1 d2
            generalize absI (c - ay) = f at HA1 HE
            generalize absI (b_y - ay) = d at HA2 HE
            rw [HE.out] at HFM
            clear HE
            go_wp2_with fail
            refine wp_region_tab 17 (by kernel_rfl) (by kernel_rfl) ?_
            intro w0 hw0 hg1 hg1'
            simp only [List.take_succ_cons, List.take_zero, List.drop_succ_cons, List.drop_zero]
            refine tab_val (o) (fun r w1 hr hg hA => by obtain ⟨q0, -⟩ := hA; have q0e : r (.tmp 9) = o := q0; exact ⟨rfl, by simp [go_sem, q0e]⟩) ?_
            refine tab_val (.int .i64 y) (fun r w1 hr hg hA => by obtain ⟨q0, -⟩ := hA; have q0e : r (.tmp 16) = .int .i64 y := q0; exact ⟨rfl, by simp [go_sem, q0e]⟩) ?_
            refine tab_val (.int .i64 c) (fun r w1 hr hg hA => by obtain ⟨q0, -⟩ := hA; have q0e : r (.tmp 15) = .int .i64 c := q0; exact ⟨rfl, by simp [go_sem, q0e]⟩) ?_
            refine tab_val (.agg #[.int .i64 y, .int .i64 c]) (fun r w1 hr hg hA => by obtain ⟨⟨_, q0⟩, ⟨_, q1⟩, -⟩ := hA; have q0e : r (.tmp 66) = .int .i64 y := q0; have q1e : r (.tmp 67) = .int .i64 c := q1; exact ⟨rfl, by simp [go_sem, q0e, q1e]⟩) ?_
            refine tab_val (.int .i64 c) (fun r w1 hr hg hA => by obtain ⟨q0, -⟩ := hA; have q0e : r (.tmp 15) = .int .i64 c := q0; exact ⟨rfl, by simp [go_sem, q0e]⟩) ?_
            refine tab_val (.pointer (some ⟨w.heap.size, 1, none⟩)) (fun r w1 hr hg hA => by obtain ⟨q0, -⟩ := hA; have q0e : r (.tmp 4) = .pointer (some ⟨w.heap.size, 0, none⟩) := q0; exact ⟨rfl, by simp [go_sem, q0e]⟩) ?_
            refine tab_val (.int .i64 ay) (fun r w1 hr hg hA => by obtain ⟨⟨_, q0⟩, -⟩ := hA; have q0e : r (.tmp 70) = .pointer (some ⟨w.heap.size, 1, none⟩) := q0; have hc := HF.out w1 (HG.out.trans (hg1.trans hg)); exact ⟨rfl, by simp [go_sem, q0e, hc]⟩) ?_
            refine tab_val (.int .i64 (c - ay)) (fun r w1 hr hg hA => by obtain ⟨⟨_, q0⟩, ⟨_, q1⟩, -⟩ := hA; have q0e : r (.tmp 69) = .int .i64 c := q0; have q1e : r (.tmp 71) = .int .i64 ay := q1; exact ⟨rfl, by simp [go_sem, q0e, q1e, HW1.out]⟩) ?_
            refine tab_call (v := .int .i64 f) (fun w1 hg => HA1.out w1) (fun r w1 hr hg hA => by obtain ⟨⟨_, q0⟩, -⟩ := hA; have q0e : r (.tmp 72) = .int .i64 (c - ay) := q0; exact ⟨rfl, by simp [go_sem, hr.func, q0e]⟩) ?_
            refine tab_val (.pointer (some ⟨w.heap.size + 1, 1, none⟩)) (fun r w1 hr hg hA => by obtain ⟨q0, -⟩ := hA; have q0e : r (.tmp 5) = .pointer (some ⟨w.heap.size + 1, 0, none⟩) := q0; exact ⟨rfl, by simp [go_sem, q0e]⟩) ?_
            refine tab_val (.int .i64 b_y) (fun r w1 hr hg hA => by obtain ⟨⟨_, q0⟩, -⟩ := hA; have q0e : r (.tmp 74) = .pointer (some ⟨w.heap.size + 1, 1, none⟩) := q0; have hc := HF.out w1 (HG.out.trans (hg1.trans hg)); exact ⟨rfl, by simp [go_sem, q0e, hc]⟩) ?_
            refine tab_val (.pointer (some ⟨w.heap.size, 1, none⟩)) (fun r w1 hr hg hA => by obtain ⟨q0, -⟩ := hA; have q0e : r (.tmp 4) = .pointer (some ⟨w.heap.size, 0, none⟩) := q0; exact ⟨rfl, by simp [go_sem, q0e]⟩) ?_
            refine tab_val (.int .i64 ay) (fun r w1 hr hg hA => by obtain ⟨⟨_, q0⟩, -⟩ := hA; have q0e : r (.tmp 76) = .pointer (some ⟨w.heap.size, 1, none⟩) := q0; have hc := HF.out w1 (HG.out.trans (hg1.trans hg)); exact ⟨rfl, by simp [go_sem, q0e, hc]⟩) ?_
            refine tab_val (.int .i64 (b_y - ay)) (fun r w1 hr hg hA => by obtain ⟨⟨_, q0⟩, ⟨_, q1⟩, -⟩ := hA; have q0e : r (.tmp 75) = .int .i64 b_y := q0; have q1e : r (.tmp 77) = .int .i64 ay := q1; exact ⟨rfl, by simp [go_sem, q0e, q1e, HW2.out]⟩) ?_
            refine tab_call (v := .int .i64 d) (fun w1 hg => HA2.out w1) (fun r w1 hr hg hA => by obtain ⟨⟨_, q0⟩, -⟩ := hA; have q0e : r (.tmp 78) = .int .i64 (b_y - ay) := q0; exact ⟨rfl, by simp [go_sem, hr.func, q0e]⟩) ?_
            refine tab_val (.agg #[.int .i64 y, .int .i64 c, .int .i64 f, .int .i64 d]) (fun r w1 hr hg hA => by obtain ⟨⟨_, q0⟩, ⟨_, q1⟩, ⟨_, q2⟩, -⟩ := hA; have q0e : r (.tmp 68) = .agg #[.int .i64 y, .int .i64 c] := q0; have q1e : r (.tmp 73) = .int .i64 f := q1; have q2e : r (.tmp 79) = .int .i64 d := q2; exact ⟨rfl, by simp [go_sem, q0e, q1e, q2e]⟩) ?_
            refine tab_block (.cells #[.int .i64 y, .int .i64 c, .int .i64 f, .int .i64 d] 61 (0, 0)) (fun b => .slice (some ⟨b, 0, none⟩) 1 1) (fun r w1 hr hg hA => by obtain ⟨⟨_, q0⟩, -⟩ := hA; have q0e : r (.tmp 80) = .agg #[.int .i64 y, .int .i64 c, .int .i64 f, .int .i64 d] := q0; exact ⟨rfl, by simp [go_sem, q0e]⟩) ?_
            refine tab_end ?_
            simp only [List.reverse_cons, List.reverse_nil, List.nil_append, List.cons_append, Out, BlockP, forall_eq, forall_const, Act.put, List.setIfInBounds_toArray, List.set_cons_succ, List.set_cons_zero]
            rintro wc hgA u48 ⟨b48, rfl, hb48⟩
            have HO1 := Lib.hid (ownsRow_grows HO.out (hg1.trans hgA))
            have HG1 := Lib.hid (HG.out.trans (hg1.trans hgA))
            have HB8 := Lib.hid hb48
            clear hg1 hgA hg1' hw0 HO HG hb48
            go_wp2_with (at_builtin; go_loud (refine append_row2 rfl _ _ 57 rfl wq.heap.size 61 i0 _ 4 32 Try.underlying57 hi0 hz0 hz1 hz2 rfl (by decide) o L.length (ccells L) rfl HO1.out 1 [.int .i64 y, .int .i64 c, .int .i64 f, .int .i64 d] _ rfl (row_four HB8.out rfl rfl rfl rfl) (by have := HLF.out; unfold maxLen; omega) (by have := HLF.out; omega) HG1.out.size ?_; intro o2 wd hown hgr; have HO2 := Lib.hid hown; have HG2 : Hid (Grows wq wd) := Lib.hid (grown_all HO1.out HG1.out hgr); clear hown hgr HO1 HG1))
            exact ⟨⟨k + 1, o2, by omega, rfl, by simp, Lib.hid (by rw [HFM.out, Option.toList_some, ccells_snoc, List.length_append]; exact HO2.out), HG2⟩, by simp only [intOf]; omega⟩
        · obtain rfl : k = ny := by omega
          have HRES : Hid (F0 ++ (ys.take k).filterMap (cutY (ax, ay) (bx, b_y)) = cutsF (ax, ay) (bx, b_y) xs ys) := Lib.hid (by rw [HFX.out, List.take_of_length_le (by rw [HNY.out]; exact Nat.le_refl _)]; rfl)
          rw [HRES.out] at HO
          go_wp2_with fail
          go_ret
          exact ⟨o, rfl, own_base HO.out G.out.size, G.out.trans HG.out⟩
end Go.Proofs.Ytlgplhanhnjeiaa
