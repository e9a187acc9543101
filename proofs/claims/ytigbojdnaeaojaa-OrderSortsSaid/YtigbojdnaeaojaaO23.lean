/-
  Layer 4: the document's points, put in one by one.
-/
import Derived.Test.YtigbojdnaeaojaaO21
import Derived.Test.YtigbojdnaeaojaaO19
import Derived.Test.YtigbojdnaeaojaaRA
namespace Go.Proofs.Ytigbojdnaeaojaa
open Go.RowKit Go.Tab

theorem PtsAt.row {w : World} {v : Value} {l : List (Int × Int)} (h : PtsAt w v l) : RowAt 2 w v l.length (flat l) := by
  refine ⟨flat_length l, fun x hx => flat_cell l hx, ?_⟩
  obtain ⟨_, ⟨⟨a, cap, hv, hac⟩, rfl⟩ | ⟨b, off, cap, hv, hb, hcp, hc⟩⟩ := h
  · exact .inl ⟨rfl, a, cap, hv, hac⟩
  · refine .inr ⟨b, off, cap, hv, hb, fun j x hx => ?_⟩
    obtain ⟨i, hi, ⟨rfl, rfl⟩ | ⟨rfl, rfl⟩⟩ := flat_at l j x hx
    · exact (hc i hi).1
    · rw [← Nat.add_assoc]; exact (hc i hi).2
theorem take_row {w : World} {v : Value} {D : List (Int × Int)} {k : Nat} (h : PtsAt w v (D.take k)) (hk : (D.take k).length = k) : RowAt 2 w v k (flat (D.take k)) := by
  have := h.row; rwa [hk] at this
theorem nil_row {w : World} {v : Value} {D : List (Int × Int)} (h : ∃ a c, v = .slice a 0 c ∧ (a = none → c = 0)) (hD : D = []) : RowAt 2 w v 0 (flat (D.take 0)) := by
  subst hD
  obtain ⟨a, c, h1, h2⟩ := h
  exact ⟨rfl, fun x hx => by simp [flat] at hx, .inl ⟨rfl, a, c, h1, h2⟩⟩
theorem rowP2 {w : World} {b : Nat} {x y : Int} {T : TypeId} (h : w.heap[b]? = some (.cells #[.int .i64 x, .int .i64 y] T)) : RowAt 2 w (.slice (some ⟨b, 0, none⟩) 1 1) 1 [.int .i64 x, .int .i64 y] :=
  ⟨rfl, by simp; exact ⟨rfl, rfl⟩, .inr ⟨b, 0, 1, rfl, (Array.getElem?_eq_some_iff.1 h).1, fun j z hj => by
    match j with
    | 0 => cases hj; unfold World.cell?; rw [h]; rfl
    | 1 => cases hj; unfold World.cell?; rw [h]; rfl
    | j + 2 => simp at hj⟩⟩
theorem ins_putP2 {R : Int × Int → Int × Int → Bool} (D : List (Int × Int)) (x : Int × Int) (k j : Nat) (hD : D.length = k) (hj : placeF R x D = j) (hk : j ≤ k) : flat (mergeF R D [x]) = (flat (D.take j) ++ [.int .i64 x.1, .int .i64 x.2] ++ flat (D.drop j)) ∧ k + 1 = j + 1 + (D.drop j).length := by
  rw [mergeF_one, hj]
  refine ⟨by simp [flat], ?_⟩
  simp only [List.length_drop]
  omega

set_option maxRecDepth 100000 in
set_option maxHeartbeats 4000000 in
theorem rpoints_any (v : Value) (l : List (Int × Int)) (w : World) (hp : PtsAt w v l) (hl : l.length ≤ 1000) : Calls Try.prog 12 #[v] w (fun e w' => ∃ u, e = .returned u ∧ w'.ownsRow w.heap.size 56 2 u l.length (flat (sortF lessP l)) ∧ Grows w w') := by
  obtain ⟨i0, hi0, hi1, hi2, hi3⟩ := info_parts infoR
  obtain ⟨a, cap, rfl, hc, hz⟩ := hp.shape
  have HP := Lib.hid hp
  clear hp hz
  generalize hlen : l.length = n at hc hl HP ⊢
  have HL := Lib.hid hlen
  clear hlen
  have HALL := Lib.hid (insK_all weakP l n (by rw [HL.out]; exact Nat.le_refl _))
  go_enter Try.func12, Try.ntmps12
  go_wp2
  go_loopw [3, 4] (fun o' i wr => ∃ (k : Nat) (o : Value), o = o' ∧ i = iv k ∧ k ≤ n ∧ Hid (wr.ownsRow w.heap.size 56 2 o k (flat (insK lessP l k))) ∧ Hid (Grows w wr)) (fun _ i _ => n + 1 - (intOf i).toNat)
  case atStart => exact ⟨0, _, rfl, rfl, Nat.zero_le _, Lib.hid (World.ownsRow_nil _ _ _ _), Lib.hid (Grows.refl _)⟩
  case round =>
    obtain ⟨k, o, rfl, rfl, hk, HO, G⟩ := hrel
    by_cases hlt : k < n
    · have HDL := Lib.hid (insK_len lessP l k (by rw [HL.out]; exact hk))
      have HDR := Lib.hid (insK_rises weakP l k)
      obtain ⟨bl, ol, rfl, hbl, -, -⟩ := HP.out.at_ (i := k) (by rw [HL.out]; exact hlt)
      have hci : ∀ w', Grows w w' → w'.cell? ⟨bl, ol + k * 2, none⟩ = some (.int .i64 (l.getD k (0, 0)).1) ∧ w'.cell? ⟨bl, ol + k * 2 + 1, none⟩ = some (.int .i64 (l.getD k (0, 0)).2) := fun w' hg => (HP.out.grows hg).at_cell (i := k) (by rw [HL.out]; exact hlt)
      have HDS : Hid (insK lessP l (k + 1) = mergeF lessP (insK lessP l k) [l.getD k (0, 0)]) := Lib.hid (by rw [insK_succ _ _ _ (by rw [HL.out]; exact hlt), List.getD_eq_getElem?_getD, List.getElem?_eq_getElem (by rw [HL.out]; exact hlt)]; rfl)
      generalize insK lessP l k = D at HO HDL HDR HDS
      have HCI := Lib.hid hci
      clear hci
      generalize l.getD k (0, 0) = p at HDS HCI
      obtain ⟨px, py⟩ := p
      have HI0 := own_pts HO.out HDL.out.symm (by have := HDL.out; omega)
      clear HO
      obtain ⟨ao, co, rfl, hco, hzo⟩ := HI0.shape
      have HI := Lib.hid (fun w' (hg : Grows wr w') => HI0.grows hg)
      by_cases hk0 : k = 0
      · subst hk0
        have HD0 : Hid (D = []) := Lib.hid (List.length_eq_zero_iff.1 HDL.out)
        have HK : Hid (placeF lessP (px, py) D = 0) := Lib.hid (by rw [HD0.out]; rfl)
        rw [HDL.out]
        clear HI HI0
        rw [HDL.out] at hco
        cases ao with
        | none =>
          have hco0 : co = 0 := hzo rfl
          subst hco0
          clear hzo hco
          go_wp2
          refine wp_loop_rounds 1 ?_; rw [rounds_succ]
          go_wp2_with fail
          go_quiet (fail)
          rename_i nq
          have GB : Grows wr (wr.drewN nq) := ⟨rfl, rfl, rfl, Nat.le_refl _, fun _ _ => rfl⟩
          generalize wr.drewN nq = wB at GB ⊢
          have GB := Lib.hid GB
          have SZ : Hid ((D.drop 0).length ≤ 2000) := Lib.hid (by rw [List.length_drop]; have := HDL.out; omega)
          have PUT := Lib.hid (ins_putP2 (R := lessP) D (px, py) _ 0 HDL.out HK.out (by omega))
          have HCJ : Hid (∀ w', Grows w w' → w'.cell? ⟨bl, ol, none⟩ = some (.int .i64 px) ∧ w'.cell? ⟨bl, ol + 1, none⟩ = some (.int .i64 py)) := Lib.hid fun w' hg => by have h := HCI.out w' hg; simpa using h



          go_wp2_with fail
          refine wp_region_tab 10 (by kernel_rfl) (by kernel_rfl) ?_
          intro w0 hw0 hg1 hg1'
          simp only [List.take_succ_cons, List.take_zero, List.drop_succ_cons, List.drop_zero]
          refine tab_empty 56 (fun r w1 hr hg hA => ⟨rfl, by simp [go_sem]⟩) ?_
          refine tab_val (.slice none 0 0) (fun r w1 hr hg hA => by obtain ⟨q0, -⟩ := hA; have q0e : r (.tmp 3) = .slice none 0 0 := q0; exact ⟨rfl, by simp [go_sem, q0e]⟩) ?_
          refine tab_val (.int .i64 0) (fun r w1 hr hg hA => by obtain ⟨q0, -⟩ := hA; have q0e : r (.tmp 5) = .int .i64 0 := q0; exact ⟨rfl, by simp [go_sem, q0e]⟩) ?_
          refine tab_val (.slice none 0 0) (fun r w1 hr hg hA => by obtain ⟨⟨_, q0⟩, ⟨_, q1⟩, -⟩ := hA; have q0e : r (.tmp 32) = .slice none 0 0 := q0; have q1e : r (.tmp 33) = .int .i64 0 := q1; exact ⟨rfl, by simp [go_sem, q0e, q1e]⟩) ?_
          refine tab_append0 _ _ 29 56 i0 _ 2 16 0 (flat (D.take 0)) rfl Try.underlying29 hi0 hi1 hi2 hi3 rfl (by decide) (by unfold maxLen; omega) (by omega) (fun r w1 hr hg hA => by obtain ⟨⟨_, q0⟩, ⟨_, q1⟩, -⟩ := hA; have q1e : r (.tmp 34) = .slice none 0 0 := q1; exact ⟨rfl, q0, by rw [q1e]; exact (nil_row ⟨_, _, rfl, fun _ => rfl⟩ HD0.out)⟩) ?_
          refine tab_val (.slice (some ⟨bl, ol, none⟩) n cap) (fun r w1 hr hg hA => by obtain ⟨q0, -⟩ := hA; have q0e : r (.tmp 0) = .slice (some ⟨bl, ol, none⟩) n cap := q0; exact ⟨rfl, by simp [go_sem, q0e]⟩) ?_
          refine tab_val (iv ((0 : Nat) : Int)) (fun r w1 hr hg hA => by obtain ⟨q0, -⟩ := hA; have q0e : r (.tmp 4) = iv ((0 : Nat) : Int) := q0; exact ⟨rfl, by simp [go_sem, q0e]⟩) ?_
          refine tab_val (.pointer (some ⟨bl, ol, none⟩)) (fun r w1 hr hg hA => by obtain ⟨⟨_, q0⟩, ⟨_, q1⟩, -⟩ := hA; have q0e : r (.tmp 36) = .slice (some ⟨bl, ol, none⟩) n cap := q0; have q1e : r (.tmp 37) = iv ((0 : Nat) : Int) := q1; exact ⟨rfl, by simp [go_sem, q0e, q1e, hlt]⟩) ?_
          refine tab_val (.agg #[.int .i64 px, .int .i64 py]) (fun r w1 hr hg hA => by obtain ⟨⟨_, q0⟩, -⟩ := hA; have q0e : r (.tmp 38) = .pointer (some ⟨bl, ol, none⟩) := q0; have hc := HCJ.out w1 (G.out.trans (GB.out.trans (hg1.trans hg))); exact ⟨rfl, by simp [go_sem, q0e, hc]⟩) ?_
          refine tab_block (.cells #[.int .i64 px, .int .i64 py] 56) (fun b => .slice (some ⟨b, 0, none⟩) 1 1) (fun r w1 hr hg hA => by obtain ⟨⟨_, q0⟩, -⟩ := hA; have q0e : r (.tmp 39) = .agg #[.int .i64 px, .int .i64 py] := q0; exact ⟨rfl, by simp [go_sem, q0e]⟩) ?_
          refine tab_end ?_
          simp only [List.reverse_cons, List.reverse_nil, List.nil_append, List.cons_append, Out, BlockP, forall_eq, forall_const, Act.put, List.setIfInBounds_toArray, List.set_cons_succ, List.set_cons_zero]
          intro wA hgA v31 h31 v35 h35 v40 h40
          obtain ⟨b40, rfl, hb40⟩ := h40
          have HB40 := Lib.hid hb40
          have GA := Lib.hid (GB.out.trans (hg1.trans hgA))
          have O3 := Lib.hid (ownsRow_base h35 (Nat.le_trans GB.out.size hg1.size))
          clear hg1' hw0 hgA hg1 h31 h35 hb40
          go_wp2_with (at_builtin; first | (refine append_row rfl _ _ 29 rfl wr.heap.size 56 i0 _ 2 16 Try.underlying29 hi0 hi1 hi2 hi3 rfl (by decide) v35 0 _ rfl O3.out 1 [.int .i64 px, .int .i64 py] _ rfl (rowP2 HB40.out) (by unfold maxLen; omega) (by omega) GA.out.size ?_; intro v4 w4 hown hgr; have O4 := Lib.hid hown; have W4 := Lib.hid (hgr wr GA.out (Nat.le_refl _)); clear hown hgr) | (refine append_pts rfl _ _ 29 rfl wr.heap.size 56 i0 (.agg #[.int .i64 0, .int .i64 0]) 16 Try.underlying29 hi0 hi1 hi2 hi3 rfl v4 _ _ rfl O4.out (D.drop 0) _ rfl (by rw [HD0.out]; exact pts_nil _) (by have := SZ.out; unfold maxLen; omega) (by have := SZ.out; omega) W4.out.size ?_; intro v5 w5 hown hgr; have O5 := Lib.hid (ownsRow_base hown G.out.size); have G5 := Lib.hid (G.out.trans (hgr wr W4.out (Nat.le_refl _))); clear hown hgr))
          exact ⟨⟨0 + 1, v5, rfl, by simp, by omega, Lib.hid (by have h5 := O5.out; rw [HDS.out, PUT.out.1, show 0 + 1 = _ from PUT.out.2]; exact h5), G5⟩, by simp only [intOf]; omega⟩
        | some p =>
          clear hzo
          go_wp2
          refine wp_loop_rounds 1 ?_; rw [rounds_succ]
          go_wp2_with fail
          go_quiet (fail)
          rename_i nq
          have GB : Grows wr (wr.drewN nq) := ⟨rfl, rfl, rfl, Nat.le_refl _, fun _ _ => rfl⟩
          generalize wr.drewN nq = wB at GB ⊢
          have GB := Lib.hid GB
          have SZ : Hid ((D.drop 0).length ≤ 2000) := Lib.hid (by rw [List.length_drop]; have := HDL.out; omega)
          have PUT := Lib.hid (ins_putP2 (R := lessP) D (px, py) _ 0 HDL.out HK.out (by omega))
          have HCJ : Hid (∀ w', Grows w w' → w'.cell? ⟨bl, ol, none⟩ = some (.int .i64 px) ∧ w'.cell? ⟨bl, ol + 1, none⟩ = some (.int .i64 py)) := Lib.hid fun w' hg => by have h := HCI.out w' hg; simpa using h



          go_wp2_with fail
          refine wp_region_tab 10 (by kernel_rfl) (by kernel_rfl) ?_
          intro w0 hw0 hg1 hg1'
          simp only [List.take_succ_cons, List.take_zero, List.drop_succ_cons, List.drop_zero]
          refine tab_empty 56 (fun r w1 hr hg hA => ⟨rfl, by simp [go_sem]⟩) ?_
          refine tab_val (.slice (some p) 0 co) (fun r w1 hr hg hA => by obtain ⟨q0, -⟩ := hA; have q0e : r (.tmp 3) = .slice (some p) 0 co := q0; exact ⟨rfl, by simp [go_sem, q0e]⟩) ?_
          refine tab_val (.int .i64 0) (fun r w1 hr hg hA => by obtain ⟨q0, -⟩ := hA; have q0e : r (.tmp 5) = .int .i64 0 := q0; exact ⟨rfl, by simp [go_sem, q0e]⟩) ?_
          refine tab_val (.slice (some p) 0 co) (fun r w1 hr hg hA => by obtain ⟨⟨_, q0⟩, ⟨_, q1⟩, -⟩ := hA; have q0e : r (.tmp 32) = .slice (some p) 0 co := q0; have q1e : r (.tmp 33) = .int .i64 0 := q1; exact ⟨rfl, by simp [go_sem, q0e, q1e]⟩) ?_
          refine tab_append0 _ _ 29 56 i0 _ 2 16 0 (flat (D.take 0)) rfl Try.underlying29 hi0 hi1 hi2 hi3 rfl (by decide) (by unfold maxLen; omega) (by omega) (fun r w1 hr hg hA => by obtain ⟨⟨_, q0⟩, ⟨_, q1⟩, -⟩ := hA; have q1e : r (.tmp 34) = .slice (some p) 0 co := q1; exact ⟨rfl, q0, by rw [q1e]; exact (nil_row ⟨_, _, rfl, fun h => by cases h⟩ HD0.out)⟩) ?_
          refine tab_val (.slice (some ⟨bl, ol, none⟩) n cap) (fun r w1 hr hg hA => by obtain ⟨q0, -⟩ := hA; have q0e : r (.tmp 0) = .slice (some ⟨bl, ol, none⟩) n cap := q0; exact ⟨rfl, by simp [go_sem, q0e]⟩) ?_
          refine tab_val (iv ((0 : Nat) : Int)) (fun r w1 hr hg hA => by obtain ⟨q0, -⟩ := hA; have q0e : r (.tmp 4) = iv ((0 : Nat) : Int) := q0; exact ⟨rfl, by simp [go_sem, q0e]⟩) ?_
          refine tab_val (.pointer (some ⟨bl, ol, none⟩)) (fun r w1 hr hg hA => by obtain ⟨⟨_, q0⟩, ⟨_, q1⟩, -⟩ := hA; have q0e : r (.tmp 36) = .slice (some ⟨bl, ol, none⟩) n cap := q0; have q1e : r (.tmp 37) = iv ((0 : Nat) : Int) := q1; exact ⟨rfl, by simp [go_sem, q0e, q1e, hlt]⟩) ?_
          refine tab_val (.agg #[.int .i64 px, .int .i64 py]) (fun r w1 hr hg hA => by obtain ⟨⟨_, q0⟩, -⟩ := hA; have q0e : r (.tmp 38) = .pointer (some ⟨bl, ol, none⟩) := q0; have hc := HCJ.out w1 (G.out.trans (GB.out.trans (hg1.trans hg))); exact ⟨rfl, by simp [go_sem, q0e, hc]⟩) ?_
          refine tab_block (.cells #[.int .i64 px, .int .i64 py] 56) (fun b => .slice (some ⟨b, 0, none⟩) 1 1) (fun r w1 hr hg hA => by obtain ⟨⟨_, q0⟩, -⟩ := hA; have q0e : r (.tmp 39) = .agg #[.int .i64 px, .int .i64 py] := q0; exact ⟨rfl, by simp [go_sem, q0e]⟩) ?_
          refine tab_end ?_
          simp only [List.reverse_cons, List.reverse_nil, List.nil_append, List.cons_append, Out, BlockP, forall_eq, forall_const, Act.put, List.setIfInBounds_toArray, List.set_cons_succ, List.set_cons_zero]
          intro wA hgA v31 h31 v35 h35 v40 h40
          obtain ⟨b40, rfl, hb40⟩ := h40
          have HB40 := Lib.hid hb40
          have GA := Lib.hid (GB.out.trans (hg1.trans hgA))
          have O3 := Lib.hid (ownsRow_base h35 (Nat.le_trans GB.out.size hg1.size))
          clear hg1' hw0 hgA hg1 h31 h35 hb40
          go_wp2_with (at_builtin; first | (refine append_row rfl _ _ 29 rfl wr.heap.size 56 i0 _ 2 16 Try.underlying29 hi0 hi1 hi2 hi3 rfl (by decide) v35 0 _ rfl O3.out 1 [.int .i64 px, .int .i64 py] _ rfl (rowP2 HB40.out) (by unfold maxLen; omega) (by omega) GA.out.size ?_; intro v4 w4 hown hgr; have O4 := Lib.hid hown; have W4 := Lib.hid (hgr wr GA.out (Nat.le_refl _)); clear hown hgr) | (refine append_pts rfl _ _ 29 rfl wr.heap.size 56 i0 (.agg #[.int .i64 0, .int .i64 0]) 16 Try.underlying29 hi0 hi1 hi2 hi3 rfl v4 _ _ rfl O4.out (D.drop 0) _ rfl (by rw [HD0.out]; exact ⟨Nat.zero_le _, .inl ⟨⟨_, _, rfl, fun h => by cases h⟩, rfl⟩⟩) (by have := SZ.out; unfold maxLen; omega) (by have := SZ.out; omega) W4.out.size ?_; intro v5 w5 hown hgr; have O5 := Lib.hid (ownsRow_base hown G.out.size); have G5 := Lib.hid (G.out.trans (hgr wr W4.out (Nat.le_refl _))); clear hown hgr))
          exact ⟨⟨0 + 1, v5, rfl, by simp, by omega, Lib.hid (by have h5 := O5.out; rw [HDS.out, PUT.out.1, show 0 + 1 = _ from PUT.out.2]; exact h5), G5⟩, by simp only [intOf]; omega⟩
      · obtain ⟨b, off, rfl, hb, -, -⟩ := HI0.at_ (i := 0) (by rw [HDL.out]; omega)
        rw [HDL.out] at hco HI ⊢
        clear hzo HI0
        obtain ⟨wo, rfl⟩ : ∃ wo : World, wo = wr := ⟨_, rfl⟩
        go_wp2
        go_loopw [5] (fun a' wr => ∃ j : Nat, a' = iv j ∧ j ≤ k ∧ Hid (∀ i, j ≤ i → i < k → lessP (px, py) (D.getD i (0, 0)) = true) ∧ Hid (Grows wo wr)) (fun i _ => (intOf i).toNat)
        case atStart => exact ⟨k, rfl, Nat.le_refl _, Lib.hid (fun i h1 h2 => by omega), Lib.hid (Grows.refl _)⟩
        case round =>
          obtain ⟨j, rfl, hj, HB, GI⟩ := hrel
          have G2 := Lib.hid (G.out.trans GI.out)
          cases j with
          | zero =>
            have HK : Hid (placeF lessP (px, py) D = 0) := Lib.hid (place_back weakP (px, py) (0, 0) D HDR.out k 0 HDL.out (Nat.zero_le _) HB.out (.inl rfl))
            clear HB
            have H1 : Hid (∀ w', Grows wo w' → PtsAt w' (.slice (some ⟨b, off, none⟩) 0 co) (D.take 0)) := Lib.hid fun w' hg => (HI.out w' hg).take (Nat.zero_le _)
            have H2 : Hid (∀ w', Grows wo w' → PtsAt w' (.slice (some ⟨b, off, none⟩) k co) (D.drop 0)) := Lib.hid fun w' hg => by rw [List.drop_zero]; exact HI.out w' hg

            go_wp2_with fail
            go_quiet (fail)
            rename_i nq
            have GB : Grows wr (wr.drewN nq) := ⟨rfl, rfl, rfl, Nat.le_refl _, fun _ _ => rfl⟩
            generalize wr.drewN nq = wB at GB ⊢
            have GB := Lib.hid GB
            have GB := Lib.hid (GI.out.trans GB.out)
            have SZ : Hid ((D.drop 0).length ≤ 2000) := Lib.hid (by rw [List.length_drop]; have := HDL.out; omega)
            have PUT := Lib.hid (ins_putP2 (R := lessP) D (px, py) _ 0 HDL.out HK.out (by omega))
            have HCJ : Hid (∀ w', Grows w w' → w'.cell? ⟨bl, ol + k * 2, none⟩ = some (.int .i64 px) ∧ w'.cell? ⟨bl, ol + k * 2 + 1, none⟩ = some (.int .i64 py)) := Lib.hid fun w' hg => by have h := HCI.out w' hg; exact h



            go_wp2_with fail
            refine wp_region_tab 10 (by kernel_rfl) (by kernel_rfl) ?_
            intro w0 hw0 hg1 hg1'
            simp only [List.take_succ_cons, List.take_zero, List.drop_succ_cons, List.drop_zero]
            refine tab_empty 56 (fun r w1 hr hg hA => ⟨rfl, by simp [go_sem]⟩) ?_
            refine tab_val (.slice (some ⟨b, off, none⟩) k co) (fun r w1 hr hg hA => by obtain ⟨q0, -⟩ := hA; have q0e : r (.tmp 3) = .slice (some ⟨b, off, none⟩) k co := q0; exact ⟨rfl, by simp [go_sem, q0e]⟩) ?_
            refine tab_val (iv ((0 : Nat) : Int)) (fun r w1 hr hg hA => by obtain ⟨q0, -⟩ := hA; have q0e : r (.tmp 5) = iv ((0 : Nat) : Int) := q0; exact ⟨rfl, by simp [go_sem, q0e]⟩) ?_
            refine tab_val (.slice (some ⟨b, off, none⟩) 0 co) (fun r w1 hr hg hA => by obtain ⟨⟨_, q0⟩, ⟨_, q1⟩, -⟩ := hA; have q0e : r (.tmp 32) = .slice (some ⟨b, off, none⟩) k co := q0; have q1e : r (.tmp 33) = iv ((0 : Nat) : Int) := q1; exact ⟨rfl, by simp [go_sem, q0e, q1e]⟩) ?_
            refine tab_append0 _ _ 29 56 i0 _ 2 16 0 (flat (D.take 0)) rfl Try.underlying29 hi0 hi1 hi2 hi3 rfl (by decide) (by unfold maxLen; omega) (by omega) (fun r w1 hr hg hA => by obtain ⟨⟨_, q0⟩, ⟨_, q1⟩, -⟩ := hA; have q1e : r (.tmp 34) = .slice (some ⟨b, off, none⟩) 0 co := q1; exact ⟨rfl, q0, by rw [q1e]; exact (take_row (H1.out w1 (GB.out.trans (hg1.trans hg))) (by rw [List.length_take]; have := HDL.out; omega))⟩) ?_
            refine tab_val (.slice (some ⟨bl, ol, none⟩) n cap) (fun r w1 hr hg hA => by obtain ⟨q0, -⟩ := hA; have q0e : r (.tmp 0) = .slice (some ⟨bl, ol, none⟩) n cap := q0; exact ⟨rfl, by simp [go_sem, q0e]⟩) ?_
            refine tab_val (iv (k : Int)) (fun r w1 hr hg hA => by obtain ⟨q0, -⟩ := hA; have q0e : r (.tmp 4) = iv (k : Int) := q0; exact ⟨rfl, by simp [go_sem, q0e]⟩) ?_
            refine tab_val (.pointer (some ⟨bl, ol + k * 2, none⟩)) (fun r w1 hr hg hA => by obtain ⟨⟨_, q0⟩, ⟨_, q1⟩, -⟩ := hA; have q0e : r (.tmp 36) = .slice (some ⟨bl, ol, none⟩) n cap := q0; have q1e : r (.tmp 37) = iv (k : Int) := q1; exact ⟨rfl, by simp [go_sem, q0e, q1e, hlt]⟩) ?_
            refine tab_val (.agg #[.int .i64 px, .int .i64 py]) (fun r w1 hr hg hA => by obtain ⟨⟨_, q0⟩, -⟩ := hA; have q0e : r (.tmp 38) = .pointer (some ⟨bl, ol + k * 2, none⟩) := q0; have hc := HCJ.out w1 (G.out.trans (GB.out.trans (hg1.trans hg))); exact ⟨rfl, by simp [go_sem, q0e, hc]⟩) ?_
            refine tab_block (.cells #[.int .i64 px, .int .i64 py] 56) (fun b => .slice (some ⟨b, 0, none⟩) 1 1) (fun r w1 hr hg hA => by obtain ⟨⟨_, q0⟩, -⟩ := hA; have q0e : r (.tmp 39) = .agg #[.int .i64 px, .int .i64 py] := q0; exact ⟨rfl, by simp [go_sem, q0e]⟩) ?_
            refine tab_end ?_
            simp only [List.reverse_cons, List.reverse_nil, List.nil_append, List.cons_append, Out, BlockP, forall_eq, forall_const, Act.put, List.setIfInBounds_toArray, List.set_cons_succ, List.set_cons_zero]
            intro wA hgA v31 h31 v35 h35 v40 h40
            obtain ⟨b40, rfl, hb40⟩ := h40
            have HB40 := Lib.hid hb40
            have GA := Lib.hid (GB.out.trans (hg1.trans hgA))
            have O3 := Lib.hid (ownsRow_base h35 (Nat.le_trans GB.out.size hg1.size))
            clear hg1' hw0 hgA hg1 h31 h35 hb40
            go_wp2_with (at_builtin; first | (refine append_row rfl _ _ 29 rfl wo.heap.size 56 i0 _ 2 16 Try.underlying29 hi0 hi1 hi2 hi3 rfl (by decide) v35 0 _ rfl O3.out 1 [.int .i64 px, .int .i64 py] _ rfl (rowP2 HB40.out) (by unfold maxLen; omega) (by omega) GA.out.size ?_; intro v4 w4 hown hgr; have O4 := Lib.hid hown; have W4 := Lib.hid (hgr wo GA.out (Nat.le_refl _)); clear hown hgr) | (refine append_pts rfl _ _ 29 rfl wo.heap.size 56 i0 (.agg #[.int .i64 0, .int .i64 0]) 16 Try.underlying29 hi0 hi1 hi2 hi3 rfl v4 _ _ rfl O4.out (D.drop 0) _ rfl (H2.out _ W4.out) (by have := SZ.out; unfold maxLen; omega) (by have := SZ.out; omega) W4.out.size ?_; intro v5 w5 hown hgr; have O5 := Lib.hid (ownsRow_base hown G.out.size); have G5 := Lib.hid (G.out.trans (hgr wo W4.out (Nat.le_refl _))); clear hown hgr))
            exact ⟨⟨k + 1, v5, rfl, by simp, by omega, Lib.hid (by have h5 := O5.out; rw [HDS.out, PUT.out.1, show k + 1 = _ from PUT.out.2]; exact h5), G5⟩, by simp only [intOf]; omega⟩
          | succ j =>
            have CF0 := Lib.hid (fun w' (hg : Grows wr w') => (HI.out w' (GI.out.trans hg)).at_cell (i := j) (by rw [HDL.out]; omega))
            generalize hq : D.getD j (0, 0) = q at CF0
            have HDQ := Lib.hid hq
            clear hq
            obtain ⟨qx, qy⟩ := q
            have CF : Hid (∀ w', Grows wr w' → (w'.cell? ⟨b, off + j * 2, none⟩ = some (.int .i64 qx) ∧ w'.cell? ⟨b, off + j * 2 + 1, none⟩ = some (.int .i64 qy)) ∧ (w'.cell? ⟨bl, ol + k * 2, none⟩ = some (.int .i64 px) ∧ w'.cell? ⟨bl, ol + k * 2 + 1, none⟩ = some (.int .i64 py))) := Lib.hid fun w' hg => ⟨CF0.out w' hg, HCI.out w' (G2.out.trans hg)⟩
            have HC := Lib.hid (fun w' => rless_any (px, py) (qx, qy) w')
            generalize hcc : lessP (px, py) (qx, qy) = c at HC
            have HR := Lib.hid hcc
            clear hcc
            have ej : ((j + 1 : Nat) : Int) = (j : Int) + 1 := rfl
            rw [ej]
            have hpos : (0 : Int) < (j : Int) + 1 := by omega
            have hjk : j < k := hj
            have hwr : wrap64 (j : Int) = (j : Int) := by unfold wrap64; omega
            go_wp2_with fail
            refine wp_region_tab 13 (by kernel_rfl) (by kernel_rfl) ?_
            intro w0 hw0 hg1 hg1'
            simp only [List.take_succ_cons, List.take_zero, List.drop_succ_cons, List.drop_zero]
            refine tab_val (iv ((j : Int) + 1)) (fun r w1 hr hg hA => by obtain ⟨q0, -⟩ := hA; have q0e : r (.tmp 5) = iv ((j : Int) + 1) := q0; exact ⟨rfl, by simp [go_sem, q0e]⟩) ?_
            refine tab_val (.bool true) (fun r w1 hr hg hA => by obtain ⟨⟨_, q0⟩, -⟩ := hA; have q0e : r (.tmp 15) = iv ((j : Int) + 1) := q0; exact ⟨rfl, by simp [go_sem, hr.const, q0e, hpos]⟩) ?_
            refine tab_val (.bool true) (fun r w1 hr hg hA => by obtain ⟨⟨_, q0⟩, -⟩ := hA; have q0e : r (.tmp 16) = .bool true := q0; exact ⟨rfl, by simp [go_sem, q0e]⟩) ?_
            refine tab_val (.slice (some ⟨bl, ol, none⟩) n cap) (fun r w1 hr hg hA => by obtain ⟨q0, ⟨_, q1⟩, -⟩ := hA; have q0e : r (.tmp 0) = .slice (some ⟨bl, ol, none⟩) n cap := q0; have q1e : r (.tmp 17) = .bool true := q1; exact ⟨⟨_, q1e, rfl⟩, by simp [go_sem, q0e]⟩) ?_
            refine tab_val (iv (k : Int)) (fun r w1 hr hg hA => by obtain ⟨q0, ⟨_, q1⟩, -⟩ := hA; have q0e : r (.tmp 4) = iv (k : Int) := q0; have q1e : r (.tmp 17) = .bool true := q1; exact ⟨⟨_, q1e, rfl⟩, by simp [go_sem, q0e]⟩) ?_
            refine tab_val (.pointer (some ⟨bl, ol + k * 2, none⟩)) (fun r w1 hr hg hA => by obtain ⟨⟨_, q0⟩, ⟨_, q1⟩, ⟨_, q2⟩, -⟩ := hA; have q0e : r (.tmp 18) = .slice (some ⟨bl, ol, none⟩) n cap := q0; have q1e : r (.tmp 19) = iv (k : Int) := q1; have q2e : r (.tmp 17) = .bool true := q2; exact ⟨⟨_, q2e, rfl⟩, by simp [go_sem, q0e, q1e, hlt]⟩) ?_
            refine tab_val (.agg #[.int .i64 px, .int .i64 py]) (fun r w1 hr hg hA => by obtain ⟨⟨_, q0⟩, ⟨_, q1⟩, -⟩ := hA; have q0e : r (.tmp 20) = .pointer (some ⟨bl, ol + k * 2, none⟩) := q0; have q1e : r (.tmp 17) = .bool true := q1; have hc := CF.out _ (hg1.trans hg); exact ⟨⟨_, q1e, rfl⟩, by simp [go_sem, q0e, hc]⟩) ?_
            refine tab_val (.slice (some ⟨b, off, none⟩) k co) (fun r w1 hr hg hA => by obtain ⟨q0, ⟨_, q1⟩, -⟩ := hA; have q0e : r (.tmp 3) = .slice (some ⟨b, off, none⟩) k co := q0; have q1e : r (.tmp 17) = .bool true := q1; exact ⟨⟨_, q1e, rfl⟩, by simp [go_sem, q0e]⟩) ?_
            refine tab_val (iv ((j : Int) + 1)) (fun r w1 hr hg hA => by obtain ⟨q0, ⟨_, q1⟩, -⟩ := hA; have q0e : r (.tmp 5) = iv ((j : Int) + 1) := q0; have q1e : r (.tmp 17) = .bool true := q1; exact ⟨⟨_, q1e, rfl⟩, by simp [go_sem, q0e]⟩) ?_
            refine tab_val (iv (j : Int)) (fun r w1 hr hg hA => by obtain ⟨⟨_, q0⟩, ⟨_, q1⟩, -⟩ := hA; have q0e : r (.tmp 23) = iv ((j : Int) + 1) := q0; have q1e : r (.tmp 17) = .bool true := q1; exact ⟨⟨_, q1e, rfl⟩, by simp [go_sem, hr.const, q0e, i64w, hwr]⟩) ?_
            refine tab_val (.pointer (some ⟨b, off + j * 2, none⟩)) (fun r w1 hr hg hA => by obtain ⟨⟨_, q0⟩, ⟨_, q1⟩, ⟨_, q2⟩, -⟩ := hA; have q0e : r (.tmp 22) = .slice (some ⟨b, off, none⟩) k co := q0; have q1e : r (.tmp 24) = iv (j : Int) := q1; have q2e : r (.tmp 17) = .bool true := q2; exact ⟨⟨_, q2e, rfl⟩, by simp [go_sem, q0e, q1e, hjk]⟩) ?_
            refine tab_val (.agg #[.int .i64 qx, .int .i64 qy]) (fun r w1 hr hg hA => by obtain ⟨⟨_, q0⟩, ⟨_, q1⟩, -⟩ := hA; have q0e : r (.tmp 25) = .pointer (some ⟨b, off + j * 2, none⟩) := q0; have q1e : r (.tmp 17) = .bool true := q1; have hc := CF.out _ (hg1.trans hg); exact ⟨⟨_, q1e, rfl⟩, by simp [go_sem, q0e, hc]⟩) ?_
            refine tab_call (v := .bool c) (fun w1 hg => HC.out w1) (fun r w1 hr hg hA => by obtain ⟨⟨_, q0⟩, ⟨_, q1⟩, ⟨_, q2⟩, -⟩ := hA; have q0e : r (.tmp 21) = .agg #[.int .i64 px, .int .i64 py] := q0; have q1e : r (.tmp 26) = .agg #[.int .i64 qx, .int .i64 qy] := q1; have q2e : r (.tmp 17) = .bool true := q2; exact ⟨⟨_, q2e, rfl⟩, by simp [go_sem, hr.func, q0e, q1e]⟩) ?_
            refine tab_end ?_
            simp only [List.reverse_cons, List.reverse_nil, List.nil_append, List.cons_append, Out, BlockP, forall_eq, forall_const, Act.put, List.setIfInBounds_toArray, List.set_cons_succ, List.set_cons_zero]
            intro w1 hgA
            have G3' := Lib.hid (G2.out.trans (hg1.trans hgA))
            have GI' := Lib.hid (GI.out.trans (hg1.trans hgA))
            clear hg1 hgA hg1' hw0 hpos hwr
            have e1 : (j : Int) + 1 - 1 = (j : Int) := by omega
            by_cases hc : c = true
            · have HB2 : Hid (∀ i, j ≤ i → i < k → lessP (px, py) (D.getD i (0, 0)) = true) := Lib.hid fun i hki hil => by
                by_cases he : i = j
                · subst he; rw [HDQ.out, HR.out]; exact hc
                · exact HB.out i (by omega) hil
              clear HB
              go_wp2
              exact ⟨⟨j, by simp, by omega, HB2, GI'⟩, by simp only [intOf]; omega⟩
            · have HK : Hid (placeF lessP (px, py) D = j + 1) := Lib.hid (place_back weakP (px, py) (0, 0) D HDR.out k (j + 1) HDL.out hj HB.out (.inr (by rw [Nat.add_sub_cancel]; rw [HDQ.out, HR.out]; exact (by simpa using hc))))
              clear HB
              have H1 : Hid (∀ w', Grows wo w' → PtsAt w' (.slice (some ⟨b, off, none⟩) (j + 1) co) (D.take (j + 1))) := Lib.hid fun w' hg => (HI.out w' hg).take hj
              have hjc : j + 1 ≤ co := by omega

              by_cases hkc : co = j + 1
              · have hkj : k = j + 1 := by omega
                have H2 : Hid (∀ w', Grows wo w' → PtsAt w' (.slice (some ⟨b, off, none⟩) 0 0) (D.drop (j + 1))) := Lib.hid fun w' hg => by
                  rw [List.drop_eq_nil_iff.2 (by rw [HDL.out]; omega)]
                  exact ⟨Nat.zero_le _, .inl ⟨⟨_, _, rfl, fun h => by cases h⟩, rfl⟩⟩
                subst hkj hkc
                have SZ : Hid ((D.drop (j + 1)).length ≤ 2000) := Lib.hid (by rw [List.length_drop]; have := HDL.out; omega)
                have PUT := Lib.hid (ins_putP2 (R := lessP) D (px, py) _ (j + 1) HDL.out HK.out (by omega))
                have HCJ : Hid (∀ w', Grows w w' → w'.cell? ⟨bl, ol + (j + 1) * 2, none⟩ = some (.int .i64 px) ∧ w'.cell? ⟨bl, ol + (j + 1) * 2 + 1, none⟩ = some (.int .i64 py)) := Lib.hid fun w' hg => by have h := HCI.out w' hg; exact h
                have hs1 : (0 : Int) ≤ (j : Int) + 1 := by omega
                have hs2 : (j : Int) + 1 ≤ (j : Int) + 1 := by omega
                have hltI : ¬ ((n : Int) ≤ (j : Int) + 1) := by omega
                go_wp2_with fail
                refine wp_region_tab 10 (by kernel_rfl) (by kernel_rfl) ?_
                intro w0 hw0 hg1 hg1'
                simp only [List.take_succ_cons, List.take_zero, List.drop_succ_cons, List.drop_zero]
                refine tab_empty 56 (fun r w1 hr hg hA => ⟨rfl, by simp [go_sem]⟩) ?_
                refine tab_val (.slice (some ⟨b, off, none⟩) (j + 1) (j + 1)) (fun r w1 hr hg hA => by obtain ⟨q0, -⟩ := hA; have q0e : r (.tmp 3) = .slice (some ⟨b, off, none⟩) (j + 1) (j + 1) := q0; exact ⟨rfl, by simp [go_sem, q0e]⟩) ?_
                refine tab_val (iv ((j : Int) + 1)) (fun r w1 hr hg hA => by obtain ⟨q0, -⟩ := hA; have q0e : r (.tmp 5) = iv ((j : Int) + 1) := q0; exact ⟨rfl, by simp [go_sem, q0e]⟩) ?_
                refine tab_val (.slice (some ⟨b, off, none⟩) (j + 1) (j + 1)) (fun r w1 hr hg hA => by obtain ⟨⟨_, q0⟩, ⟨_, q1⟩, -⟩ := hA; have q0e : r (.tmp 32) = .slice (some ⟨b, off, none⟩) (j + 1) (j + 1) := q0; have q1e : r (.tmp 33) = iv ((j : Int) + 1) := q1; exact ⟨rfl, by simp [go_sem, q0e, q1e, hs1, hs2]⟩) ?_
                refine tab_append0 _ _ 29 56 i0 _ 2 16 (j + 1) (flat (D.take (j + 1))) rfl Try.underlying29 hi0 hi1 hi2 hi3 rfl (by decide) (by unfold maxLen; omega) (by omega) (fun r w1 hr hg hA => by obtain ⟨⟨_, q0⟩, ⟨_, q1⟩, -⟩ := hA; have q1e : r (.tmp 34) = .slice (some ⟨b, off, none⟩) (j + 1) (j + 1) := q1; exact ⟨rfl, q0, by rw [q1e]; exact (take_row (H1.out w1 (GI'.out.trans (hg1.trans hg))) (by rw [List.length_take]; have := HDL.out; omega))⟩) ?_
                refine tab_val (.slice (some ⟨bl, ol, none⟩) n cap) (fun r w1 hr hg hA => by obtain ⟨q0, -⟩ := hA; have q0e : r (.tmp 0) = .slice (some ⟨bl, ol, none⟩) n cap := q0; exact ⟨rfl, by simp [go_sem, q0e]⟩) ?_
                refine tab_val (iv ((j + 1 : Nat) : Int)) (fun r w1 hr hg hA => by obtain ⟨q0, -⟩ := hA; have q0e : r (.tmp 4) = iv ((j + 1 : Nat) : Int) := q0; exact ⟨rfl, by simp [go_sem, q0e]⟩) ?_
                refine tab_val (.pointer (some ⟨bl, ol + (j + 1) * 2, none⟩)) (fun r w1 hr hg hA => by obtain ⟨⟨_, q0⟩, ⟨_, q1⟩, -⟩ := hA; have q0e : r (.tmp 36) = .slice (some ⟨bl, ol, none⟩) n cap := q0; have q1e : r (.tmp 37) = iv ((j + 1 : Nat) : Int) := q1; exact ⟨rfl, by simp [go_sem, q0e, q1e, hs1, hltI]⟩) ?_
                refine tab_val (.agg #[.int .i64 px, .int .i64 py]) (fun r w1 hr hg hA => by obtain ⟨⟨_, q0⟩, -⟩ := hA; have q0e : r (.tmp 38) = .pointer (some ⟨bl, ol + (j + 1) * 2, none⟩) := q0; have hc := HCJ.out w1 (G.out.trans (GI'.out.trans (hg1.trans hg))); exact ⟨rfl, by simp [go_sem, q0e, hc]⟩) ?_
                refine tab_block (.cells #[.int .i64 px, .int .i64 py] 56) (fun b => .slice (some ⟨b, 0, none⟩) 1 1) (fun r w1 hr hg hA => by obtain ⟨⟨_, q0⟩, -⟩ := hA; have q0e : r (.tmp 39) = .agg #[.int .i64 px, .int .i64 py] := q0; exact ⟨rfl, by simp [go_sem, q0e]⟩) ?_
                refine tab_end ?_
                simp only [List.reverse_cons, List.reverse_nil, List.nil_append, List.cons_append, Out, BlockP, forall_eq, forall_const, Act.put, List.setIfInBounds_toArray, List.set_cons_succ, List.set_cons_zero]
                intro wA hgA v31 h31 v35 h35 v40 h40
                obtain ⟨b40, rfl, hb40⟩ := h40
                have HB40 := Lib.hid hb40
                have GA := Lib.hid (GI'.out.trans (hg1.trans hgA))
                have O3 := Lib.hid (ownsRow_base h35 (Nat.le_trans GI'.out.size hg1.size))
                clear hg1' hw0 hgA hg1 h31 h35 hb40
                go_wp2_with (at_builtin; first | (refine append_row rfl _ _ 29 rfl wo.heap.size 56 i0 _ 2 16 Try.underlying29 hi0 hi1 hi2 hi3 rfl (by decide) v35 (j + 1) _ rfl O3.out 1 [.int .i64 px, .int .i64 py] _ rfl (rowP2 HB40.out) (by unfold maxLen; omega) (by omega) GA.out.size ?_; intro v4 w4 hown hgr; have O4 := Lib.hid hown; have W4 := Lib.hid (hgr wo GA.out (Nat.le_refl _)); clear hown hgr) | (refine append_pts rfl _ _ 29 rfl wo.heap.size 56 i0 (.agg #[.int .i64 0, .int .i64 0]) 16 Try.underlying29 hi0 hi1 hi2 hi3 rfl v4 _ _ rfl O4.out (D.drop (j + 1)) _ rfl (H2.out _ W4.out) (by have := SZ.out; unfold maxLen; omega) (by have := SZ.out; omega) W4.out.size ?_; intro v5 w5 hown hgr; have O5 := Lib.hid (ownsRow_base hown G.out.size); have G5 := Lib.hid (G.out.trans (hgr wo W4.out (Nat.le_refl _))); clear hown hgr))
                exact ⟨⟨(j + 1) + 1, v5, rfl, by simp, by omega, Lib.hid (by have h5 := O5.out; rw [HDS.out, PUT.out.1, show (j + 1) + 1 = _ from PUT.out.2]; exact h5), G5⟩, by simp only [intOf]; omega⟩
              · have H2 : Hid (∀ w', Grows wo w' → PtsAt w' (.slice (some ⟨b, off + (j + 1) * 2, none⟩) (k - (j + 1)) (co - (j + 1))) (D.drop (j + 1))) := Lib.hid fun w' hg => (HI.out w' hg).drop hj
                have SZ : Hid ((D.drop (j + 1)).length ≤ 2000) := Lib.hid (by rw [List.length_drop]; have := HDL.out; omega)
                have PUT := Lib.hid (ins_putP2 (R := lessP) D (px, py) _ (j + 1) HDL.out HK.out (by omega))
                have HCJ : Hid (∀ w', Grows w w' → w'.cell? ⟨bl, ol + k * 2, none⟩ = some (.int .i64 px) ∧ w'.cell? ⟨bl, ol + k * 2 + 1, none⟩ = some (.int .i64 py)) := Lib.hid fun w' hg => by have h := HCI.out w' hg; exact h
                have hs1 : (0 : Int) ≤ (j : Int) + 1 := by omega
                have hs2 : (j : Int) + 1 ≤ (co : Int) := by omega

                go_wp2_with fail
                refine wp_region_tab 10 (by kernel_rfl) (by kernel_rfl) ?_
                intro w0 hw0 hg1 hg1'
                simp only [List.take_succ_cons, List.take_zero, List.drop_succ_cons, List.drop_zero]
                refine tab_empty 56 (fun r w1 hr hg hA => ⟨rfl, by simp [go_sem]⟩) ?_
                refine tab_val (.slice (some ⟨b, off, none⟩) k co) (fun r w1 hr hg hA => by obtain ⟨q0, -⟩ := hA; have q0e : r (.tmp 3) = .slice (some ⟨b, off, none⟩) k co := q0; exact ⟨rfl, by simp [go_sem, q0e]⟩) ?_
                refine tab_val (iv ((j : Int) + 1)) (fun r w1 hr hg hA => by obtain ⟨q0, -⟩ := hA; have q0e : r (.tmp 5) = iv ((j : Int) + 1) := q0; exact ⟨rfl, by simp [go_sem, q0e]⟩) ?_
                refine tab_val (.slice (some ⟨b, off, none⟩) (j + 1) co) (fun r w1 hr hg hA => by obtain ⟨⟨_, q0⟩, ⟨_, q1⟩, -⟩ := hA; have q0e : r (.tmp 32) = .slice (some ⟨b, off, none⟩) k co := q0; have q1e : r (.tmp 33) = iv ((j : Int) + 1) := q1; exact ⟨rfl, by simp [go_sem, q0e, q1e, hs1, hs2]⟩) ?_
                refine tab_append0 _ _ 29 56 i0 _ 2 16 (j + 1) (flat (D.take (j + 1))) rfl Try.underlying29 hi0 hi1 hi2 hi3 rfl (by decide) (by unfold maxLen; omega) (by omega) (fun r w1 hr hg hA => by obtain ⟨⟨_, q0⟩, ⟨_, q1⟩, -⟩ := hA; have q1e : r (.tmp 34) = .slice (some ⟨b, off, none⟩) (j + 1) co := q1; exact ⟨rfl, q0, by rw [q1e]; exact (take_row (H1.out w1 (GI'.out.trans (hg1.trans hg))) (by rw [List.length_take]; have := HDL.out; omega))⟩) ?_
                refine tab_val (.slice (some ⟨bl, ol, none⟩) n cap) (fun r w1 hr hg hA => by obtain ⟨q0, -⟩ := hA; have q0e : r (.tmp 0) = .slice (some ⟨bl, ol, none⟩) n cap := q0; exact ⟨rfl, by simp [go_sem, q0e]⟩) ?_
                refine tab_val (iv (k : Int)) (fun r w1 hr hg hA => by obtain ⟨q0, -⟩ := hA; have q0e : r (.tmp 4) = iv (k : Int) := q0; exact ⟨rfl, by simp [go_sem, q0e]⟩) ?_
                refine tab_val (.pointer (some ⟨bl, ol + k * 2, none⟩)) (fun r w1 hr hg hA => by obtain ⟨⟨_, q0⟩, ⟨_, q1⟩, -⟩ := hA; have q0e : r (.tmp 36) = .slice (some ⟨bl, ol, none⟩) n cap := q0; have q1e : r (.tmp 37) = iv (k : Int) := q1; exact ⟨rfl, by simp [go_sem, q0e, q1e, hlt]⟩) ?_
                refine tab_val (.agg #[.int .i64 px, .int .i64 py]) (fun r w1 hr hg hA => by obtain ⟨⟨_, q0⟩, -⟩ := hA; have q0e : r (.tmp 38) = .pointer (some ⟨bl, ol + k * 2, none⟩) := q0; have hc := HCJ.out w1 (G.out.trans (GI'.out.trans (hg1.trans hg))); exact ⟨rfl, by simp [go_sem, q0e, hc]⟩) ?_
                refine tab_block (.cells #[.int .i64 px, .int .i64 py] 56) (fun b => .slice (some ⟨b, 0, none⟩) 1 1) (fun r w1 hr hg hA => by obtain ⟨⟨_, q0⟩, -⟩ := hA; have q0e : r (.tmp 39) = .agg #[.int .i64 px, .int .i64 py] := q0; exact ⟨rfl, by simp [go_sem, q0e]⟩) ?_
                refine tab_end ?_
                simp only [List.reverse_cons, List.reverse_nil, List.nil_append, List.cons_append, Out, BlockP, forall_eq, forall_const, Act.put, List.setIfInBounds_toArray, List.set_cons_succ, List.set_cons_zero]
                intro wA hgA v31 h31 v35 h35 v40 h40
                obtain ⟨b40, rfl, hb40⟩ := h40
                have HB40 := Lib.hid hb40
                have GA := Lib.hid (GI'.out.trans (hg1.trans hgA))
                have O3 := Lib.hid (ownsRow_base h35 (Nat.le_trans GI'.out.size hg1.size))
                clear hg1' hw0 hgA hg1 h31 h35 hb40
                go_wp2_with (at_builtin; first | (refine append_row rfl _ _ 29 rfl wo.heap.size 56 i0 _ 2 16 Try.underlying29 hi0 hi1 hi2 hi3 rfl (by decide) v35 (j + 1) _ rfl O3.out 1 [.int .i64 px, .int .i64 py] _ rfl (rowP2 HB40.out) (by unfold maxLen; omega) (by omega) GA.out.size ?_; intro v4 w4 hown hgr; have O4 := Lib.hid hown; have W4 := Lib.hid (hgr wo GA.out (Nat.le_refl _)); clear hown hgr) | (refine append_pts rfl _ _ 29 rfl wo.heap.size 56 i0 (.agg #[.int .i64 0, .int .i64 0]) 16 Try.underlying29 hi0 hi1 hi2 hi3 rfl v4 _ _ rfl O4.out (D.drop (j + 1)) _ rfl (H2.out _ W4.out) (by have := SZ.out; unfold maxLen; omega) (by have := SZ.out; omega) W4.out.size ?_; intro v5 w5 hown hgr; have O5 := Lib.hid (ownsRow_base hown G.out.size); have G5 := Lib.hid (G.out.trans (hgr wo W4.out (Nat.le_refl _))); clear hown hgr))
                exact ⟨⟨k + 1, v5, rfl, by simp, by omega, Lib.hid (by have h5 := O5.out; rw [HDS.out, PUT.out.1, show k + 1 = _ from PUT.out.2]; exact h5), G5⟩, by simp only [intOf]; omega⟩
    · have hke : k = n := by omega
      subst hke
      rw [HALL.out] at HO
      go_wp2
      go_ret
      exact ⟨_, rfl, HO.out, G.out⟩
end Go.Proofs.Ytigbojdnaeaojaa
