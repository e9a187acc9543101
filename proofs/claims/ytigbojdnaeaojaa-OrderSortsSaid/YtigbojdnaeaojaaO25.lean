/-
  Layer 4: the law on things in order.
-/
import Derived.Test.YtigbojdnaeaojaaO24
import Derived.Test.YtigbojdnaeaojaaO22
import Derived.Test.YtigbojdnaeaojaaO23
import Derived.Test.YtigbojdnaeaojaaO26
namespace Go.Proofs.Ytigbojdnaeaojaa
open Go.RowKit Go.Tab

theorem infoRI : (Try.prog.info? 24).map (fun i => (i.zero, i.size, i.bytes)) = some (some (.slice none 0 0), 1, 24) := by kernel_rfl
theorem rowOneB {w : World} {b : Nat} {x : Value} {T : TypeId} (h : w.heap[b]? = some (.cells #[x] T)) (hx : x.oneCell' = true) : RowAt 1 w (.slice (some ⟨b, 0, none⟩) 1 1) 1 [x] :=
  ⟨rfl, by simpa using hx, .inr ⟨b, 0, 1, rfl, (Array.getElem?_eq_some_iff.1 h).1, fun j y hj => by
    cases j with
    | zero => cases hj; unfold World.cell?; rw [h]; rfl
    | succ j => simp at hj⟩⟩
theorem range_snoc {α : Type} (f : Nat → α) (k : Nat) : (List.range (k + 1)).map f = (List.range k).map f ++ [f k] := by simp [List.range_succ]
/-- An owned row of values that read as these rows. -/
theorem rows_vals {w : World} {base : Nat} {T2 : TypeId} {v : Value} {vs : List Value} {ps : List (List Int)} (h : w.ownsRow base T2 1 v vs.length vs) (hl : vs.length = ps.length) (h6 : ps.length ≤ 1000000)
    (hr : ∀ i, i < ps.length → ∃ x, vs[i]? = some x ∧ IntsAt w x (ps.getD i [])) : RowsAt w v ps := by
  refine ⟨h6, ?_⟩
  obtain ⟨_, ⟨rfl, hn⟩ | ⟨g, cap, cur, rfl, hb, hh, h1, h2, h3, h4⟩⟩ := h
  · have : ps = [] := List.eq_nil_of_length_eq_zero (by rw [← hl]; exact hn)
    subst this
    exact .inl ⟨⟨none, 0, rfl, fun _ => rfl⟩, rfl⟩
  · refine .inr ⟨g, 0, cap, by rw [← hl], (Array.getElem?_eq_some_iff.1 hh).1, by rw [← hl]; exact h1, fun i hi => ?_⟩
    obtain ⟨x, hx, hp⟩ := hr i hi
    refine ⟨x, ?_, hp⟩
    have hx' : cur[i]? = some x := by
      have : (List.take (vs.length * 1) cur.toList)[i]? = vs[i]? := by rw [h4]
      rw [List.getElem?_take_of_lt (by omega), hx] at this
      rw [← Array.getElem?_toList]; exact this
    simp only [World.cell?, hh, Nat.zero_add]
    exact hx'

set_option maxRecDepth 100000 in
set_option maxHeartbeats 8000000 in
theorem law_sorts (l : List (Int × Int)) (m : List Int) (R : Nat → List Int) (al ar am : Option Addr) (kl cl kr cr km cm ll lr lm : Nat) (A : Nat → Option Addr) (N C : Nat → Nat) (w : World)
    (hl0 : ll = min kl 60) (hr0 : lr = min kr 60) (hm0 : lm = min km 60) (hkl : kl ≤ cl) (hkr : kr ≤ cr) (hkm : km ≤ cm) (hcl : cl ≤ 9223372036854775807) (hcr : cr ≤ 9223372036854775807) (hcm : cm ≤ 9223372036854775807)
    (Hl : Hid (l.length = ll)) (Hm : Hid (m.length = lm)) (HRL : Hid (∀ i, (R i).length = min (N i) 20))
    (PL : Hid (PtsAt w (.slice al ll cl) l)) (IM : Hid (IntsAt w (.slice am lm cm) m))
    (HC : Hid (lr = 0 ∨ ∃ b off, ar = some ⟨b, off, none⟩ ∧ b < w.heap.size ∧ ∀ i, i < lr → w.cell? ⟨b, off + i, none⟩ = some (.slice (A i) (N i) (C i))))
    (HRW : Hid (∀ i, i < lr → N i ≤ C i ∧ C i ≤ 9223372036854775807 ∧ IntsAt w (.slice (A i) (min (N i) 20) (C i)) (R i))) :
    Calls Try.prog 3 #[.slice al kl cl, .slice ar kr cr, .slice am km cm] w (Ret (.bool true) w) := by
  obtain ⟨i0, hi0, hz0, hz1, hz2⟩ := info_parts infoRI
  have m1 : (if (60 : Int) < (kl : Int) then (60 : Int) else (kl : Int)) = (ll : Int) := by omega
  have m2 : (if (60 : Int) < (kr : Int) then (60 : Int) else (kr : Int)) = (lr : Int) := by omega
  have m3 : (if (60 : Int) < (km : Int) then (60 : Int) else (km : Int)) = (lm : Int) := by omega
  have b1 : ll ≤ cl := by omega
  have b2 : lr ≤ cr := by omega
  have b3 : lm ≤ cm := by omega
  have B : Hid (ll ≤ 60 ∧ lr ≤ 60 ∧ lm ≤ 60) := Lib.hid (by omega)
  clear hl0 hr0 hm0
  go_enter Try.func3, Try.ntmps3
  go_wp2_with fail
  go_quiet (fail)
  rename_i nq
  obtain ⟨wq, hwq⟩ : ∃ wq, wq = w.drewN nq := ⟨_, rfl⟩
  rw [← hwq]
  have G0 : Hid (Grows w wq) := Lib.hid (by rw [hwq]; exact ⟨rfl, rfl, rfl, Nat.le_refl _, fun _ _ => rfl⟩)
  clear hwq m1 m2 m3 hkl hkr hkm
  go_wp2
  go_loopw [7, 8] (fun o' i wr => ∃ (k : Nat) (o : Value), o = o' ∧ i = iv k ∧ k ≤ lr ∧ Hid (wr.ownsRow w.heap.size 24 1 o k ((List.range k).map fun i => .slice (A i) (min (N i) 20) (C i))) ∧ Hid (Grows w wr)) (fun _ i _ => 61 - (intOf i).toNat)
  case atStart => exact ⟨0, _, rfl, rfl, Nat.zero_le _, Lib.hid (World.ownsRow_nil _ _ _ _), G0⟩
  case round =>
    obtain ⟨k, o, rfl, rfl, hk, HO, G⟩ := hrel
    by_cases hlt : k < lr
    · have hB := B.out.2.1
      obtain ⟨ba, oa, rfl, hba, hcell⟩ : ∃ b off, ar = some ⟨b, off, none⟩ ∧ b < w.heap.size ∧ w.cell? ⟨b, off + k, none⟩ = some (.slice (A k) (N k) (C k)) := by
        rcases HC.out with h | ⟨b, off, ha, hb, h⟩
        · omega
        · exact ⟨b, off, ha, hb, h k hlt⟩
      have HCX0 : ∀ w', Grows wr w' → w'.cell? ⟨ba, oa + k, none⟩ = some (.slice (A k) (N k) (C k)) := fun w' hg => by rw [Below.cell (G.out.trans hg) (p := ⟨ba, oa + k, none⟩) hba]; exact hcell
      have HCX := Lib.hid HCX0
      obtain ⟨hNC, hC63, -⟩ := HRW.out k hlt
      have HSS := Lib.hid (range_snoc (fun i => Value.slice (A i) (min (N i) 20) (C i)) k)
      have n1 : (if (20 : Int) < (N k : Int) then (20 : Int) else (N k : Int)) = ((min (N k) 20 : Nat) : Int) := by omega
      have n2 : min (N k) 20 ≤ C k := by omega
      clear hcell HCX0
      generalize A k = ak at HCX HSS
      generalize min (N k) 20 = mk at n1 n2 HSS
      generalize N k = nk at HCX n1 hNC
      generalize C k = ck at HCX n2 hNC hC63 HSS
      go_wp2_with fail
      refine wp_region_tab 13 (by kernel_rfl) (by kernel_rfl) ?_
      intro w0 hw0 hg1 hg1'
      simp only [List.take_succ_cons, List.take_zero, List.drop_succ_cons, List.drop_zero]
      refine tab_val (o) (fun r w1 hr hg hA => by obtain ⟨q0, -⟩ := hA; have q0e : r (.tmp 7) = o := q0; exact ⟨rfl, by simp [go_sem, q0e]⟩) ?_
      refine tab_val (.slice (some ⟨ba, oa, none⟩) lr cr) (fun r w1 hr hg hA => by obtain ⟨q0, -⟩ := hA; have q0e : r (.tmp 1) = .slice (some ⟨ba, oa, none⟩) lr cr := q0; exact ⟨rfl, by simp [go_sem, q0e]⟩) ?_
      refine tab_val (iv (k : Int)) (fun r w1 hr hg hA => by obtain ⟨q0, -⟩ := hA; have q0e : r (.tmp 8) = iv (k : Int) := q0; exact ⟨rfl, by simp [go_sem, q0e]⟩) ?_
      refine tab_val (.pointer (some ⟨ba, oa + k, none⟩)) (fun r w1 hr hg hA => by obtain ⟨⟨_, q0⟩, ⟨_, q1⟩, -⟩ := hA; have q0e : r (.tmp 32) = .slice (some ⟨ba, oa, none⟩) lr cr := q0; have q1e : r (.tmp 33) = iv (k : Int) := q1; exact ⟨rfl, by simp [go_sem, q0e, q1e, hlt]⟩) ?_
      refine tab_val (.slice ak nk ck) (fun r w1 hr hg hA => by obtain ⟨⟨_, q0⟩, -⟩ := hA; have q0e : r (.tmp 34) = .pointer (some ⟨ba, oa + k, none⟩) := q0; have hc := HCX.out w1 (hg1.trans hg); exact ⟨rfl, by simp [go_sem, q0e, hc]⟩) ?_
      refine tab_val (.slice (some ⟨ba, oa, none⟩) lr cr) (fun r w1 hr hg hA => by obtain ⟨q0, -⟩ := hA; have q0e : r (.tmp 1) = .slice (some ⟨ba, oa, none⟩) lr cr := q0; exact ⟨rfl, by simp [go_sem, q0e]⟩) ?_
      refine tab_val (iv (k : Int)) (fun r w1 hr hg hA => by obtain ⟨q0, -⟩ := hA; have q0e : r (.tmp 8) = iv (k : Int) := q0; exact ⟨rfl, by simp [go_sem, q0e]⟩) ?_
      refine tab_val (.pointer (some ⟨ba, oa + k, none⟩)) (fun r w1 hr hg hA => by obtain ⟨⟨_, q0⟩, ⟨_, q1⟩, -⟩ := hA; have q0e : r (.tmp 36) = .slice (some ⟨ba, oa, none⟩) lr cr := q0; have q1e : r (.tmp 37) = iv (k : Int) := q1; exact ⟨rfl, by simp [go_sem, q0e, q1e, hlt]⟩) ?_
      refine tab_val (.slice ak nk ck) (fun r w1 hr hg hA => by obtain ⟨⟨_, q0⟩, -⟩ := hA; have q0e : r (.tmp 38) = .pointer (some ⟨ba, oa + k, none⟩) := q0; have hc := HCX.out w1 (hg1.trans hg); exact ⟨rfl, by simp [go_sem, q0e, hc]⟩) ?_
      refine tab_val (iv (nk : Int)) (fun r w1 hr hg hA => by obtain ⟨⟨_, q0⟩, -⟩ := hA; have q0e : r (.tmp 39) = .slice ak nk ck := q0; exact ⟨rfl, by simp [go_sem, q0e]⟩) ?_
      refine tab_val (iv (mk : Int)) (fun r w1 hr hg hA => by obtain ⟨⟨_, q0⟩, -⟩ := hA; have q0e : r (.tmp 40) = iv (nk : Int) := q0; exact ⟨rfl, by simp [go_sem, hr.const, q0e, n1]⟩) ?_
      refine tab_val (.slice ak mk ck) (fun r w1 hr hg hA => by obtain ⟨⟨_, q0⟩, ⟨_, q1⟩, -⟩ := hA; have q0e : r (.tmp 35) = .slice ak nk ck := q0; have q1e : r (.tmp 41) = iv (mk : Int) := q1; exact ⟨rfl, by simp [go_sem, q0e, q1e, n2]⟩) ?_
      refine tab_block (.cells #[.slice ak mk ck] 24) (fun b => .slice (some ⟨b, 0, none⟩) 1 1) (fun r w1 hr hg hA => by obtain ⟨⟨_, q0⟩, -⟩ := hA; have q0e : r (.tmp 42) = .slice ak mk ck := q0; exact ⟨rfl, by simp [go_sem, q0e]⟩) ?_
      refine tab_end ?_
      simp only [List.reverse_cons, List.reverse_nil, List.nil_append, List.cons_append, Out, BlockP, forall_eq, forall_const, Act.put, List.setIfInBounds_toArray, List.set_cons_succ, List.set_cons_zero]
      intro wA hgA v43 h43
      obtain ⟨b43, rfl, hb43⟩ := h43
      have HB43 := Lib.hid hb43
      have GA := Lib.hid (hg1.trans hgA)
      have HSZ := Lib.hid (G.out.trans GA.out).size
      clear hg1 hgA hg1' hw0 hb43 n1 n2 hNC hC63
      go_wp2_with (at_builtin; go_loud (refine append_row rfl _ _ 23 rfl w.heap.size 24 i0 _ 1 24 Try.underlying23 hi0 hz0 hz1 hz2 rfl (by decide) o k _ rfl (ownsRow_grows HO.out GA.out) 1 [.slice ak mk ck] _ rfl (rowOneB HB43.out rfl) (by unfold maxLen; omega) (by omega) HSZ.out ?_; intro v5 w5 hown5 hgr5; have O5 := Lib.hid hown5; have G5 := Lib.hid (hgr5 w (G.out.trans GA.out) (Nat.le_refl _)); clear hown5 hgr5))
      exact ⟨⟨k + 1, v5, rfl, by simp, by omega, Lib.hid (by rw [HSS.out]; exact O5.out), G5⟩, by simp only [intOf]; omega⟩
    · have hke : k = lr := by omega
      subst hke
      obtain ⟨L, hL⟩ : ∃ L, L = (List.range k).map R := ⟨_, rfl⟩
      have hLL : L.length = k := by rw [hL]; simp
      have hLg : ∀ i, i < k → L.getD i [] = R i := fun i hi => by rw [hL, List.getD_eq_getElem?_getD, List.getElem?_map, List.getElem?_range hi]; rfl
      have RW : Hid (RowsAt wr o L) := Lib.hid (rows_vals (vs := (List.range k).map fun i => .slice (A i) (min (N i) 20) (C i)) (by have h1 := HO.out; rw [List.length_map, List.length_range]; exact h1) (by rw [hLL]; simp) (by have := B.out.2.1; omega) (fun i hi => by
        rw [hLL] at hi
        refine ⟨_, by rw [List.getElem?_map, List.getElem?_range hi]; rfl, ?_⟩
        rw [hLg i hi]
        exact (HRW.out i hi).2.2.grows G.out))
      have HLL := Lib.hid hLL
      clear hL hLg hLL HO HRW HRL HC
      obtain ⟨ao, co, rfl, hco, -⟩ := RW.out.shape
      rw [HLL.out] at hco RW ⊢
      obtain ⟨wo, rfl⟩ : ∃ wo : World, wo = wr := ⟨_, rfl⟩
      go_wp2
      go_loopw [9] (fun i wi => ∃ j : Nat, i = iv j ∧ 1 ≤ j ∧ Hid (Grows wo wi)) (fun i _ => 62 - (intOf i).toNat)
      case atStart => exact ⟨1, rfl, Nat.le_refl _, Lib.hid (Grows.refl _)⟩
      case round =>
        obtain ⟨j, rfl, hj1, GI⟩ := hrel
        have G2 := Lib.hid (G.out.trans GI.out)
        have hB := B.out.2.1
        by_cases hjk : j < k
        · obtain ⟨i, rfl⟩ : ∃ i, j = i + 1 := ⟨j - 1, by omega⟩
          have hik : i < k := by omega
          obtain ⟨bo, oo, u1, rfl, hbo, d1, p1⟩ := RW.out.at_ (i := i) (by rw [HLL.out]; omega)
          obtain ⟨bo', oo', u2, he, hbo', d2, p2⟩ := RW.out.at_ (i := i + 1) (by rw [HLL.out]; omega)
          obtain ⟨rfl, rfl⟩ : bo' = bo ∧ oo' = oo := by cases he; exact ⟨rfl, rfl⟩
          obtain ⟨ax, nx, cx, rfl⟩ : ∃ ax nx cx, u1 = .slice ax nx cx := by obtain ⟨p, q, h, _⟩ := p1.shape; exact ⟨p, _, q, h⟩
          obtain ⟨ay, ny, cy, rfl⟩ : ∃ ay ny cy, u2 = .slice ay ny cy := by obtain ⟨p, q, h, _⟩ := p2.shape; exact ⟨p, _, q, h⟩
          have D1 : Hid (∀ w', Grows wr w' → w'.cell? ⟨bo', oo' + i, none⟩ = some (.slice ax nx cx) ∧ w'.cell? ⟨bo', oo' + (i + 1), none⟩ = some (.slice ay ny cy)) := Lib.hid fun w' hg => ⟨by rw [Below.cell (GI.out.trans hg) (p := ⟨bo', oo' + i, none⟩) hbo]; exact d1, by rw [Below.cell (GI.out.trans hg) (p := ⟨bo', oo' + (i + 1), none⟩) hbo]; exact d2⟩
          have P1 := Lib.hid (fun w' (hg : Grows wr w') => compare_any (.slice ax nx cx) (.slice ay ny cy) _ _ w' (p1.grows (GI.out.trans hg)) (p2.grows (GI.out.trans hg)))
          have P2 := Lib.hid (fun w' (hg : Grows wr w') => rcompare_any (.slice ax nx cx) (.slice ay ny cy) _ _ w' (p1.grows (GI.out.trans hg)) (p2.grows (GI.out.trans hg)))
          generalize cmpL (L.getD i []) (L.getD (i + 1) []) = c at P1 P2
          clear d1 d2 p1 p2 he hbo hbo'
          have ei : ((i + 1 : Nat) : Int) = (i : Int) + 1 := rfl
          rw [ei]
          have hs1 : (0 : Int) ≤ (i : Int) + 1 := Int.add_nonneg (Int.natCast_nonneg i) (by decide)
          have hs2 : ¬ ((k : Int) ≤ (i : Int) + 1) := fun h => absurd (Int.ofNat_le.1 (show ((k : Nat) : Int) ≤ ((i + 1 : Nat) : Int) from h)) (Nat.not_le.2 hjk)
          have hwr : wrap64 (i : Int) = (i : Int) := by unfold wrap64; omega
          go_wp2_with fail
          refine wp_region_tab 20 (by kernel_rfl) (by kernel_rfl) ?_
          intro w0 hw0 hg1 hg1'
          simp only [List.take_succ_cons, List.take_zero, List.drop_succ_cons, List.drop_zero]
          refine tab_val ((.slice (some ⟨bo', oo', none⟩) k co)) (fun r w1 hr hg hA => by obtain ⟨q0, -⟩ := hA; have q0e : r (.tmp 7) = (.slice (some ⟨bo', oo', none⟩) k co) := q0; exact ⟨rfl, by simp [go_sem, q0e]⟩) ?_
          refine tab_val (iv ((i : Int) + 1)) (fun r w1 hr hg hA => by obtain ⟨q0, -⟩ := hA; have q0e : r (.tmp 9) = iv ((i : Int) + 1) := q0; exact ⟨rfl, by simp [go_sem, q0e]⟩) ?_
          refine tab_val (iv (i : Int)) (fun r w1 hr hg hA => by obtain ⟨⟨_, q0⟩, -⟩ := hA; have q0e : r (.tmp 52) = iv ((i : Int) + 1) := q0; exact ⟨rfl, by simp [go_sem, hr.const, q0e, i64w, hwr]⟩) ?_
          refine tab_val (.pointer (some ⟨bo', oo' + i, none⟩)) (fun r w1 hr hg hA => by obtain ⟨⟨_, q0⟩, ⟨_, q1⟩, -⟩ := hA; have q0e : r (.tmp 51) = (.slice (some ⟨bo', oo', none⟩) k co) := q0; have q1e : r (.tmp 53) = iv (i : Int) := q1; exact ⟨rfl, by simp [go_sem, q0e, q1e, hik]⟩) ?_
          refine tab_val (.slice ax nx cx) (fun r w1 hr hg hA => by obtain ⟨⟨_, q0⟩, -⟩ := hA; have q0e : r (.tmp 54) = .pointer (some ⟨bo', oo' + i, none⟩) := q0; have hc := D1.out w1 (hg1.trans hg); exact ⟨rfl, by simp [go_sem, q0e, hc]⟩) ?_
          refine tab_val ((.slice (some ⟨bo', oo', none⟩) k co)) (fun r w1 hr hg hA => by obtain ⟨q0, -⟩ := hA; have q0e : r (.tmp 7) = (.slice (some ⟨bo', oo', none⟩) k co) := q0; exact ⟨rfl, by simp [go_sem, q0e]⟩) ?_
          refine tab_val (iv ((i : Int) + 1)) (fun r w1 hr hg hA => by obtain ⟨q0, -⟩ := hA; have q0e : r (.tmp 9) = iv ((i : Int) + 1) := q0; exact ⟨rfl, by simp [go_sem, q0e]⟩) ?_
          refine tab_val (.pointer (some ⟨bo', oo' + (i + 1), none⟩)) (fun r w1 hr hg hA => by obtain ⟨⟨_, q0⟩, ⟨_, q1⟩, -⟩ := hA; have q0e : r (.tmp 56) = (.slice (some ⟨bo', oo', none⟩) k co) := q0; have q1e : r (.tmp 57) = iv ((i : Int) + 1) := q1; exact ⟨rfl, by simp [go_sem, q0e, q1e, hs1, hs2]⟩) ?_
          refine tab_val (.slice ay ny cy) (fun r w1 hr hg hA => by obtain ⟨⟨_, q0⟩, -⟩ := hA; have q0e : r (.tmp 58) = .pointer (some ⟨bo', oo' + (i + 1), none⟩) := q0; have hc := D1.out w1 (hg1.trans hg); exact ⟨rfl, by simp [go_sem, q0e, hc]⟩) ?_
          refine tab_call (v := iv c) (fun w1 hg => P1.out w1 (hg1.trans hg)) (fun r w1 hr hg hA => by obtain ⟨⟨_, q0⟩, ⟨_, q1⟩, -⟩ := hA; have q0e : r (.tmp 55) = .slice ax nx cx := q0; have q1e : r (.tmp 59) = .slice ay ny cy := q1; exact ⟨rfl, by simp [go_sem, hr.func, q0e, q1e]⟩) ?_
          refine tab_val ((.slice (some ⟨bo', oo', none⟩) k co)) (fun r w1 hr hg hA => by obtain ⟨q0, -⟩ := hA; have q0e : r (.tmp 7) = (.slice (some ⟨bo', oo', none⟩) k co) := q0; exact ⟨rfl, by simp [go_sem, q0e]⟩) ?_
          refine tab_val (iv ((i : Int) + 1)) (fun r w1 hr hg hA => by obtain ⟨q0, -⟩ := hA; have q0e : r (.tmp 9) = iv ((i : Int) + 1) := q0; exact ⟨rfl, by simp [go_sem, q0e]⟩) ?_
          refine tab_val (iv (i : Int)) (fun r w1 hr hg hA => by obtain ⟨⟨_, q0⟩, -⟩ := hA; have q0e : r (.tmp 62) = iv ((i : Int) + 1) := q0; exact ⟨rfl, by simp [go_sem, hr.const, q0e, i64w, hwr]⟩) ?_
          refine tab_val (.pointer (some ⟨bo', oo' + i, none⟩)) (fun r w1 hr hg hA => by obtain ⟨⟨_, q0⟩, ⟨_, q1⟩, -⟩ := hA; have q0e : r (.tmp 61) = (.slice (some ⟨bo', oo', none⟩) k co) := q0; have q1e : r (.tmp 63) = iv (i : Int) := q1; exact ⟨rfl, by simp [go_sem, q0e, q1e, hik]⟩) ?_
          refine tab_val (.slice ax nx cx) (fun r w1 hr hg hA => by obtain ⟨⟨_, q0⟩, -⟩ := hA; have q0e : r (.tmp 64) = .pointer (some ⟨bo', oo' + i, none⟩) := q0; have hc := D1.out w1 (hg1.trans hg); exact ⟨rfl, by simp [go_sem, q0e, hc]⟩) ?_
          refine tab_val ((.slice (some ⟨bo', oo', none⟩) k co)) (fun r w1 hr hg hA => by obtain ⟨q0, -⟩ := hA; have q0e : r (.tmp 7) = (.slice (some ⟨bo', oo', none⟩) k co) := q0; exact ⟨rfl, by simp [go_sem, q0e]⟩) ?_
          refine tab_val (iv ((i : Int) + 1)) (fun r w1 hr hg hA => by obtain ⟨q0, -⟩ := hA; have q0e : r (.tmp 9) = iv ((i : Int) + 1) := q0; exact ⟨rfl, by simp [go_sem, q0e]⟩) ?_
          refine tab_val (.pointer (some ⟨bo', oo' + (i + 1), none⟩)) (fun r w1 hr hg hA => by obtain ⟨⟨_, q0⟩, ⟨_, q1⟩, -⟩ := hA; have q0e : r (.tmp 66) = (.slice (some ⟨bo', oo', none⟩) k co) := q0; have q1e : r (.tmp 67) = iv ((i : Int) + 1) := q1; exact ⟨rfl, by simp [go_sem, q0e, q1e, hs1, hs2]⟩) ?_
          refine tab_val (.slice ay ny cy) (fun r w1 hr hg hA => by obtain ⟨⟨_, q0⟩, -⟩ := hA; have q0e : r (.tmp 68) = .pointer (some ⟨bo', oo' + (i + 1), none⟩) := q0; have hc := D1.out w1 (hg1.trans hg); exact ⟨rfl, by simp [go_sem, q0e, hc]⟩) ?_
          refine tab_call (v := iv c) (fun w1 hg => P2.out w1 (hg1.trans hg)) (fun r w1 hr hg hA => by obtain ⟨⟨_, q0⟩, ⟨_, q1⟩, -⟩ := hA; have q0e : r (.tmp 65) = .slice ax nx cx := q0; have q1e : r (.tmp 69) = .slice ay ny cy := q1; exact ⟨rfl, by simp [go_sem, hr.func, q0e, q1e]⟩) ?_
          refine tab_end ?_
          simp only [List.reverse_cons, List.reverse_nil, List.nil_append, List.cons_append, Out, BlockP, forall_eq, forall_const, Act.put, List.setIfInBounds_toArray, List.set_cons_succ, List.set_cons_zero]
          intro wA hgA
          have GA := Lib.hid (hg1.trans hgA)
          clear hg1 hgA hg1' hw0 hwr hs1 hs2
          have hi60 : i < 60 := by omega
          go_wp2
          exact ⟨⟨i + 1 + 1, by simp, by omega, Lib.hid (GI.out.trans GA.out)⟩, by simp only [intOf]; omega⟩
        · have PG := Lib.hid (PL.out.grows G2.out)
          have IG := Lib.hid (IM.out.grows G2.out)
          have RG := Lib.hid (RW.out.grows GI.out)
          have HW := Lib.hid (show RowsAt wr (.slice ao k co) L from RG.out)
          have HL60 : Hid (l.length ≤ 60) := Lib.hid (by rw [Hl.out]; exact B.out.1)
          have HM60 : Hid (m.length ≤ 60) := Lib.hid (by rw [Hm.out]; exact B.out.2.2)
          have HLs := Lib.hid (sortF_length lessP l)
          clear RG
          go_wp2_with fail
          refine (kn_any _).mono ?_
          rintro _ wa ⟨rfl, hg⟩
          have P1 := Lib.hid (PG.out.grows hg)
          have Ga := Lib.hid (G2.out.trans hg)
          have Sa := Lib.hid hg
          clear hg
          go_wp2_with fail
          refine (points_any _ l _ P1.out (by have := HL60.out; omega)).mono ?_
          rintro _ wb ⟨vb, rfl, hvb, hg⟩
          have PB := Lib.hid (own_pts hvb rfl (by rw [HLs.out]; have := HL60.out; omega))
          have P2 := Lib.hid (P1.out.grows hg)
          have Gb := Lib.hid (Ga.out.trans hg)
          have Sb := Lib.hid (Sa.out.trans hg)
          clear hg hvb
          go_wp2_with fail
          refine (ofs_any _ l _ P2.out (by have := HL60.out; omega)).mono ?_
          rintro _ wc ⟨vc, rfl, hvc, hg⟩
          have PC := Lib.hid (own_pts hvc rfl (by have := HL60.out; omega))
          have PB2 := Lib.hid (PB.out.grows hg)
          have Gc := Lib.hid (Gb.out.trans hg)
          have Sc := Lib.hid (Sb.out.trans hg)
          clear hg hvc
          go_wp2_with fail
          refine (rpoints_any _ l _ PC.out (by have := HL60.out; omega)).mono ?_
          rintro _ wd ⟨vd, rfl, hvd, hg⟩
          have PD := Lib.hid (own_pts (l := sortF lessP l) hvd HLs.out.symm (by rw [HLs.out]; have := HL60.out; omega))
          have PB3 := Lib.hid (PB2.out.grows hg)
          have Gd := Lib.hid (Gc.out.trans hg)
          have Sd := Lib.hid (Sc.out.trans hg)
          clear hg hvd
          go_wp2_with fail
          refine (same_true _ _ (sortF lessP l) _ PB3.out PD.out (by rw [HLs.out]; have := HL60.out; omega)).mono ?_
          rintro _ we ⟨rfl, hg⟩
          have Ge := Lib.hid (Gd.out.trans hg)
          have Se := Lib.hid (Sd.out.trans hg)
          clear hg
          go_wp2_with fail
          refine (rows_any _ L _ (HW.out.grows Se.out)).mono ?_
          rintro _ wf ⟨vf, rfl, hvf, hg⟩
          have IF := Lib.hid (own_ints hvf rfl (by rw [sortF_length, idx_len, HLL.out]; omega))
          have Gf := Lib.hid (Ge.out.trans hg)
          have Sf := Lib.hid (Se.out.trans hg)
          clear hg hvf
          go_wp2_with fail
          refine (rrows_any _ L _ (HW.out.grows Sf.out) (by rw [HLL.out]; omega)).mono ?_
          rintro _ wg ⟨vg, rfl, hvg, hg⟩
          have IH := Lib.hid (own_ints hvg rfl (by rw [sortF_length, idx_len, HLL.out]; omega))
          have IF2 := Lib.hid (IF.out.grows hg)
          have Gg := Lib.hid (Gf.out.trans hg)
          have Sg := Lib.hid (Sf.out.trans hg)
          clear hg hvg
          go_wp2_with fail
          refine (Ints_any _ _ _ _ _ IF2.out IH.out).mono ?_
          rw [decide_eq_true rfl]
          rintro _ wh ⟨rfl, hg⟩
          have Gh := Lib.hid (Gg.out.trans hg)
          have Sh := Lib.hid (Sg.out.trans hg)
          clear hg
          go_wp2_with fail
          refine (uniq_any _ m _ (IG.out.grows Sh.out) (by have := HM60.out; omega)).mono ?_
          rw [uniq_eq]
          have HR3 := Lib.hid (runiqF_facts m).2.2
          rintro _ wi ⟨vi, rfl, hvi, hg⟩
          have II := Lib.hid (own_ints hvi rfl (by have := HR3.out; have := HM60.out; omega))
          have Gi := Lib.hid (Gh.out.trans hg)
          have Si := Lib.hid (Sh.out.trans hg)
          clear hg hvi
          go_wp2_with fail
          refine (runiq_any _ m _ (IG.out.grows Si.out) (by have := HM60.out; omega)).mono ?_
          rintro _ wj ⟨vj, rfl, hvj, hg⟩
          have IJ := Lib.hid (own_ints hvj rfl (by have := HR3.out; have := HM60.out; omega))
          have II2 := Lib.hid (II.out.grows hg)
          have Gj := Lib.hid (Gi.out.trans hg)
          clear hg hvj
          go_wp2_with fail
          refine (Ints_any _ _ _ _ _ II2.out IJ.out).mono ?_
          rw [decide_eq_true rfl]
          rintro _ wk ⟨rfl, hg⟩
          have Gk := Lib.hid (Gj.out.trans hg)
          clear hg
          go_wp2
          go_ret
          exact ⟨rfl, Gk.out⟩
end Go.Proofs.Ytigbojdnaeaojaa
