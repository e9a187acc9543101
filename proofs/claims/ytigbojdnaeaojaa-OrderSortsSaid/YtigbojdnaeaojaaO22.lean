/-
  Layer 4: the document's rows, put in one by one.
-/
import Derived.Test.YtigbojdnaeaojaaO21
namespace Go.Proofs.Ytigbojdnaeaojaa
open Go.RowKit Go.Tab

set_option maxRecDepth 100000 in
set_option maxHeartbeats 4000000 in
theorem rrows_any (v : Value) (L : List (List Int)) (w : World) (hp : RowsAt w v L) (hl : L.length ≤ 1000) : Calls Try.prog 16 #[v] w (RetInts (sortF (rowR L) (idxL L.length)) w) := by
  obtain ⟨i0, hi0, hi1, hi2, hi3⟩ := info_parts infoI
  obtain ⟨a, cap, rfl, hc, hz⟩ := hp.shape
  have HP := Lib.hid hp
  clear hp hz
  generalize hlen : L.length = n at hc hl HP ⊢
  have HL := Lib.hid hlen
  clear hlen
  have HALL := Lib.hid (insK_all (weakRow L) (idxL n) n (by rw [idx_len]; exact Nat.le_refl _))
  go_enter Try.func16, Try.ntmps16
  go_wp2
  go_loopw [3, 4] (fun o' i wr => ∃ (k : Nat) (o : Value), o = o' ∧ i = iv k ∧ k ≤ n ∧ Hid (wr.ownsRow w.heap.size 3 1 o k ((insK (rowR L) (idxL n) k).map iv)) ∧ Hid (Grows w wr)) (fun _ i _ => n + 1 - (intOf i).toNat)
  case atStart => exact ⟨0, _, rfl, rfl, Nat.zero_le _, Lib.hid (World.ownsRow_nil _ _ _ _), Lib.hid (Grows.refl _)⟩
  case round =>
    obtain ⟨k, o, rfl, rfl, hk, HO, G⟩ := hrel
    by_cases hlt : k < n
    · have HDL := Lib.hid (insK_len (rowR L) (idxL n) k (by rw [idx_len]; exact hk))
      have HDR := Lib.hid (insK_rises (weakRow L) (idxL n) k)
      have HDM := Lib.hid (ins_at (rowR L) n k hk)
      have HDS : Hid (insK (rowR L) (idxL n) (k + 1) = mergeF (rowR L) (insK (rowR L) (idxL n) k) [(k : Int)]) := Lib.hid (by rw [insK_succ _ _ _ (by rw [idx_len]; exact hlt), idx_get n k hlt])
      generalize insK (rowR L) (idxL n) k = D at HO HDL HDR HDM HDS
      obtain ⟨bl, ol, ui, rfl, hbl, ci, ii⟩ := HP.out.at_ (i := k) (by rw [HL.out]; exact hlt)
      obtain ⟨ax, nx, cpx, rfl⟩ : ∃ ax nx cpx, ui = .slice ax nx cpx := by obtain ⟨p, q, h, _⟩ := ii.shape; exact ⟨p, _, q, h⟩
      have HCI : Hid (∀ w', Grows w w' → w'.cell? ⟨bl, ol + k, none⟩ = some (.slice ax nx cpx)) := Lib.hid fun w' hg => by rw [Below.cell hg (p := ⟨bl, ol + k, none⟩) hbl]; exact ci
      have HII := Lib.hid (fun w' (hg : Grows w w') => ii.grows hg)
      clear ci ii
      have HI0 := own_ints HO.out HDL.out.symm (by have := HDL.out; omega)
      clear HO
      obtain ⟨ao, co, rfl, hco, hzo⟩ := HI0.shape
      have HI := Lib.hid (fun w' (hg : Grows wr w') => HI0.grows hg)
      by_cases hk0 : k = 0
      · subst hk0
        have HD0 : Hid (D = []) := Lib.hid (List.length_eq_zero_iff.1 HDL.out)
        have HK : Hid (placeF (rowR L) ((0 : Nat) : Int) D = 0) := Lib.hid (by rw [HD0.out]; rfl)
        rw [HDL.out]
        clear HI HI0
        rw [HDL.out] at hco
        cases ao with
        | none =>
          have hco0 : co = 0 := hzo rfl
          subst hco0
          clear hzo hco
          go_wp2
          refine wp_loop_rounds 1 ?_; rw [rounds_succ]
          go_wp2_with fail
          go_quiet (fail)
          rename_i nq
          have GB : Grows wr (wr.drewN nq) := ⟨rfl, rfl, rfl, Nat.le_refl _, fun _ _ => rfl⟩
          generalize wr.drewN nq = wB at GB ⊢
          have GB := Lib.hid GB
          have SZ : Hid ((D.take 0).length ≤ 2000 ∧ (D.drop 0).length ≤ 2000) := Lib.hid (by rw [List.length_take, List.length_drop]; have := HDL.out; omega)
          have GS := GB.out.size
          have PUT := Lib.hid (ins_put (R := (rowR L)) D ((0 : Nat) : Int) _ _ HDL.out HK.out)
          go_wp2_with (at_builtin; first | (refine append_ints rfl _ _ 24 rfl wr.heap.size 3 i0 (.int .i64 0) 8 Try.underlying24 hi0 hi1 hi2 hi3 rfl (.slice (some ⟨wB.heap.size, 0, none⟩) 0 0) 0 [] rfl (ownsRow_base (own_empty (by decide)) GS) (D.take 0) _ rfl (by rw [HD0.out]; exact ints_nil _) (by have := SZ.out; unfold maxLen; omega) (by have := SZ.out; omega) (by simp only [World.size_alloc]; omega) ?_; intro v3 w3 hown hgr; have O3 := Lib.hid hown; have W3 := Lib.hid (hgr wr (GB.out.al _) (Nat.le_refl _)); clear hown hgr) | (refine append_ints rfl _ _ 24 rfl wr.heap.size 3 i0 (.int .i64 0) 8 Try.underlying24 hi0 hi1 hi2 hi3 rfl v3 _ _ rfl (ownsRow_grows O3.out (Grows.alloc _ _)) [((0 : Nat) : Int)] _ rfl (ints_block (heap_new _ (.cells #[iv ((0 : Nat) : Int)] 3) _ rfl) rfl (by simp)) (by have := SZ.out; simp only [List.length_singleton]; unfold maxLen; omega) (by have := SZ.out; simp only [List.length_singleton]; omega) (by have := W3.out.size; simp only [World.size_alloc]; omega) ?_; intro v4 w4 hown hgr; have O4 := Lib.hid hown; have W4 := Lib.hid (hgr wr (W3.out.al _) (Nat.le_refl _)); clear hown hgr) | (refine append_ints rfl _ _ 24 rfl wr.heap.size 3 i0 (.int .i64 0) 8 Try.underlying24 hi0 hi1 hi2 hi3 rfl v4 _ _ rfl O4.out (D.drop 0) _ rfl (by rw [HD0.out]; exact ints_nil _) (by have := SZ.out; simp only [List.length_singleton]; unfold maxLen; omega) (by have := SZ.out; simp only [List.length_singleton]; omega) W4.out.size ?_; intro v5 w5 hown hgr; have O5 := Lib.hid (ownsRow_base hown G.out.size); have G5 := Lib.hid (G.out.trans (hgr wr W4.out (Nat.le_refl _))); clear hown hgr))
          exact ⟨⟨0 + 1, v5, rfl, by simp, by omega, Lib.hid (by have h5 := O5.out; rw [HDS.out, PUT.out.1, show 0 + 1 = _ from PUT.out.2]; exact h5), G5⟩, by simp only [intOf]; omega⟩
        | some p =>
          clear hzo
          go_wp2
          refine wp_loop_rounds 1 ?_; rw [rounds_succ]
          go_wp2_with fail
          go_quiet (fail)
          rename_i nq
          have GB : Grows wr (wr.drewN nq) := ⟨rfl, rfl, rfl, Nat.le_refl _, fun _ _ => rfl⟩
          generalize wr.drewN nq = wB at GB ⊢
          have GB := Lib.hid GB
          have SZ : Hid ((D.take 0).length ≤ 2000 ∧ (D.drop 0).length ≤ 2000) := Lib.hid (by rw [List.length_take, List.length_drop]; have := HDL.out; omega)
          have GS := GB.out.size
          have PUT := Lib.hid (ins_put (R := (rowR L)) D ((0 : Nat) : Int) _ _ HDL.out HK.out)
          go_wp2_with (at_builtin; first | (refine append_ints rfl _ _ 24 rfl wr.heap.size 3 i0 (.int .i64 0) 8 Try.underlying24 hi0 hi1 hi2 hi3 rfl (.slice (some ⟨wB.heap.size, 0, none⟩) 0 0) 0 [] rfl (ownsRow_base (own_empty (by decide)) GS) (D.take 0) _ rfl (by rw [HD0.out]; exact ⟨Nat.zero_le _, .inl ⟨⟨_, _, rfl, fun h => by cases h⟩, rfl⟩⟩) (by have := SZ.out; unfold maxLen; omega) (by have := SZ.out; omega) (by simp only [World.size_alloc]; omega) ?_; intro v3 w3 hown hgr; have O3 := Lib.hid hown; have W3 := Lib.hid (hgr wr (GB.out.al _) (Nat.le_refl _)); clear hown hgr) | (refine append_ints rfl _ _ 24 rfl wr.heap.size 3 i0 (.int .i64 0) 8 Try.underlying24 hi0 hi1 hi2 hi3 rfl v3 _ _ rfl (ownsRow_grows O3.out (Grows.alloc _ _)) [((0 : Nat) : Int)] _ rfl (ints_block (heap_new _ (.cells #[iv ((0 : Nat) : Int)] 3) _ rfl) rfl (by simp)) (by have := SZ.out; simp only [List.length_singleton]; unfold maxLen; omega) (by have := SZ.out; simp only [List.length_singleton]; omega) (by have := W3.out.size; simp only [World.size_alloc]; omega) ?_; intro v4 w4 hown hgr; have O4 := Lib.hid hown; have W4 := Lib.hid (hgr wr (W3.out.al _) (Nat.le_refl _)); clear hown hgr) | (refine append_ints rfl _ _ 24 rfl wr.heap.size 3 i0 (.int .i64 0) 8 Try.underlying24 hi0 hi1 hi2 hi3 rfl v4 _ _ rfl O4.out (D.drop 0) _ rfl (by rw [HD0.out]; exact ⟨Nat.zero_le _, .inl ⟨⟨_, _, rfl, fun h => by cases h⟩, rfl⟩⟩) (by have := SZ.out; simp only [List.length_singleton]; unfold maxLen; omega) (by have := SZ.out; simp only [List.length_singleton]; omega) W4.out.size ?_; intro v5 w5 hown hgr; have O5 := Lib.hid (ownsRow_base hown G.out.size); have G5 := Lib.hid (G.out.trans (hgr wr W4.out (Nat.le_refl _))); clear hown hgr))
          exact ⟨⟨0 + 1, v5, rfl, by simp, by omega, Lib.hid (by have h5 := O5.out; rw [HDS.out, PUT.out.1, show 0 + 1 = _ from PUT.out.2]; exact h5), G5⟩, by simp only [intOf]; omega⟩
      · obtain ⟨b, off, rfl, hb, -⟩ := HI0.at_ (i := 0) (by rw [HDL.out]; omega)
        rw [HDL.out] at hco HI ⊢
        clear hzo HI0
        obtain ⟨wo, rfl⟩ : ∃ wo : World, wo = wr := ⟨_, rfl⟩
        go_wp2
        go_loopw [5] (fun a' wr => ∃ j : Nat, a' = iv j ∧ j ≤ k ∧ Hid (∀ i, j ≤ i → i < k → (rowR L) (k : Int) (D.getD i 0) = true) ∧ Hid (Grows wo wr)) (fun i _ => (intOf i).toNat)
        case atStart => exact ⟨k, rfl, Nat.le_refl _, Lib.hid (fun i h1 h2 => by omega), Lib.hid (Grows.refl _)⟩
        case round =>
          obtain ⟨j, rfl, hj, HB, GI⟩ := hrel
          have G2 := Lib.hid (G.out.trans GI.out)
          cases j with
          | zero =>
            have HK : Hid (placeF (rowR L) (k : Int) D = 0) := Lib.hid (place_back (weakRow L) (k : Int) 0 D HDR.out k 0 HDL.out (Nat.zero_le _) HB.out (.inl rfl))
            clear HB
            have H1 : Hid (∀ w', Grows wo w' → IntsAt w' (.slice (some ⟨b, off, none⟩) 0 co) (D.take 0)) := Lib.hid fun w' hg => (HI.out w' hg).take (Nat.zero_le _)
            have H2 : Hid (∀ w', Grows wo w' → IntsAt w' (.slice (some ⟨b, off, none⟩) k co) (D.drop 0)) := Lib.hid fun w' hg => by rw [List.drop_zero]; exact HI.out w' hg

            go_wp2_with fail
            go_quiet (fail)
            rename_i nq
            have GB : Grows wr (wr.drewN nq) := ⟨rfl, rfl, rfl, Nat.le_refl _, fun _ _ => rfl⟩
            generalize wr.drewN nq = wB at GB ⊢
            have GB := Lib.hid GB
            have GB := Lib.hid (GI.out.trans GB.out)
            have SZ : Hid ((D.take 0).length ≤ 2000 ∧ (D.drop 0).length ≤ 2000) := Lib.hid (by rw [List.length_take, List.length_drop]; have := HDL.out; omega)
            have GS := GB.out.size
            have PUT := Lib.hid (ins_put (R := (rowR L)) D (k : Int) _ _ HDL.out HK.out)
            go_wp2_with (at_builtin; first | (refine append_ints rfl _ _ 24 rfl wo.heap.size 3 i0 (.int .i64 0) 8 Try.underlying24 hi0 hi1 hi2 hi3 rfl (.slice (some ⟨wB.heap.size, 0, none⟩) 0 0) 0 [] rfl (ownsRow_base (own_empty (by decide)) GS) (D.take 0) _ rfl (H1.out _ (GB.out.al _)) (by have := SZ.out; unfold maxLen; omega) (by have := SZ.out; omega) (by simp only [World.size_alloc]; omega) ?_; intro v3 w3 hown hgr; have O3 := Lib.hid hown; have W3 := Lib.hid (hgr wo (GB.out.al _) (Nat.le_refl _)); clear hown hgr) | (refine append_ints rfl _ _ 24 rfl wo.heap.size 3 i0 (.int .i64 0) 8 Try.underlying24 hi0 hi1 hi2 hi3 rfl v3 _ _ rfl (ownsRow_grows O3.out (Grows.alloc _ _)) [(k : Int)] _ rfl (ints_block (heap_new _ (.cells #[iv (k : Int)] 3) _ rfl) rfl (by simp)) (by have := SZ.out; simp only [List.length_singleton]; unfold maxLen; omega) (by have := SZ.out; simp only [List.length_singleton]; omega) (by have := W3.out.size; simp only [World.size_alloc]; omega) ?_; intro v4 w4 hown hgr; have O4 := Lib.hid hown; have W4 := Lib.hid (hgr wo (W3.out.al _) (Nat.le_refl _)); clear hown hgr) | (refine append_ints rfl _ _ 24 rfl wo.heap.size 3 i0 (.int .i64 0) 8 Try.underlying24 hi0 hi1 hi2 hi3 rfl v4 _ _ rfl O4.out (D.drop 0) _ rfl (H2.out _ W4.out) (by have := SZ.out; simp only [List.length_singleton]; unfold maxLen; omega) (by have := SZ.out; simp only [List.length_singleton]; omega) W4.out.size ?_; intro v5 w5 hown hgr; have O5 := Lib.hid (ownsRow_base hown G.out.size); have G5 := Lib.hid (G.out.trans (hgr wo W4.out (Nat.le_refl _))); clear hown hgr))
            exact ⟨⟨k + 1, v5, rfl, by simp, by omega, Lib.hid (by have h5 := O5.out; rw [HDS.out, PUT.out.1, show k + 1 = _ from PUT.out.2]; exact h5), G5⟩, by simp only [intOf]; omega⟩
          | succ j =>
            obtain ⟨m, hm, hDm⟩ := HDM.out j (by omega)
            have c1 := (HI.out _ GI.out).at_cell (i := j) (by rw [HDL.out]; omega)
            rw [hDm] at c1
            obtain ⟨b2, o2, um, he, hb2, cm, im⟩ := HP.out.at_ (i := m) (by rw [HL.out]; exact hm)
            obtain ⟨rfl, rfl⟩ : b2 = bl ∧ o2 = ol := by cases he; exact ⟨rfl, rfl⟩
            obtain ⟨ay, ny, cpy, rfl⟩ : ∃ ay ny cpy, um = .slice ay ny cpy := by obtain ⟨p, q, h, _⟩ := im.shape; exact ⟨p, _, q, h⟩
            have hbw : b < wr.heap.size := Nat.lt_of_lt_of_le hb GI.out.size
            have CF : Hid (∀ w', Grows wr w' → w'.cell? ⟨b, off + j, none⟩ = some (iv (m : Int)) ∧ w'.cell? ⟨b2, o2 + k, none⟩ = some (.slice ax nx cpx) ∧ w'.cell? ⟨b2, o2 + m, none⟩ = some (.slice ay ny cpy)) := Lib.hid fun w' hg => ⟨by rw [Below.cell hg (p := ⟨b, off + j, none⟩) hbw]; exact c1, HCI.out _ (G2.out.trans hg), by rw [Below.cell (G2.out.trans hg) (p := ⟨b2, o2 + m, none⟩) hb2]; exact cm⟩
            have HR : Hid (rowR L k (D.getD j 0) = decide (cmpL (L.getD k []) (L.getD m []) < 0)) := Lib.hid (by rw [hDm]; rfl)
            have HC := Lib.hid (fun w' (hg : Grows wr w') => rcompare_any (.slice ax nx cpx) (.slice ay ny cpy) _ _ w' (HII.out _ (G2.out.trans hg)) (im.grows (G2.out.trans hg)))
            generalize cmpL (L.getD k []) (L.getD m []) = c at HC HR
            clear hDm cm im he hb2 c1 hbw
            have ej : ((j + 1 : Nat) : Int) = (j : Int) + 1 := rfl
            rw [ej]
            have hpos : (0 : Int) < (j : Int) + 1 := by omega
            have hjk : j < k := hj
            have hwr : wrap64 (j : Int) = (j : Int) := by unfold wrap64; omega
            go_wp2_with fail
            refine wp_region_tab 17 (by kernel_rfl) (by kernel_rfl) ?_
            intro w0 hw0 hg1 hg1'
            simp only [List.take_succ_cons, List.take_zero, List.drop_succ_cons, List.drop_zero]
            refine tab_val (iv ((j : Int) + 1)) (fun r w1 hr hg hA => by obtain ⟨q0, -⟩ := hA; have q0e : r (.tmp 5) = iv ((j : Int) + 1) := q0; exact ⟨rfl, by simp [go_sem, q0e]⟩) ?_
            refine tab_val (.bool true) (fun r w1 hr hg hA => by obtain ⟨⟨_, q0⟩, -⟩ := hA; have q0e : r (.tmp 15) = iv ((j : Int) + 1) := q0; exact ⟨rfl, by simp [go_sem, hr.const, q0e, hpos]⟩) ?_
            refine tab_val (.bool true) (fun r w1 hr hg hA => by obtain ⟨⟨_, q0⟩, -⟩ := hA; have q0e : r (.tmp 16) = .bool true := q0; exact ⟨rfl, by simp [go_sem, q0e]⟩) ?_
            refine tab_val (.slice (some ⟨b2, o2, none⟩) n cap) (fun r w1 hr hg hA => by obtain ⟨q0, ⟨_, q1⟩, -⟩ := hA; have q0e : r (.tmp 0) = .slice (some ⟨b2, o2, none⟩) n cap := q0; have q1e : r (.tmp 17) = .bool true := q1; exact ⟨⟨_, q1e, rfl⟩, by simp [go_sem, q0e]⟩) ?_
            refine tab_val (iv (k : Int)) (fun r w1 hr hg hA => by obtain ⟨q0, ⟨_, q1⟩, -⟩ := hA; have q0e : r (.tmp 4) = iv (k : Int) := q0; have q1e : r (.tmp 17) = .bool true := q1; exact ⟨⟨_, q1e, rfl⟩, by simp [go_sem, q0e]⟩) ?_
            refine tab_val (.pointer (some ⟨b2, o2 + k, none⟩)) (fun r w1 hr hg hA => by obtain ⟨⟨_, q0⟩, ⟨_, q1⟩, ⟨_, q2⟩, -⟩ := hA; have q0e : r (.tmp 18) = .slice (some ⟨b2, o2, none⟩) n cap := q0; have q1e : r (.tmp 19) = iv (k : Int) := q1; have q2e : r (.tmp 17) = .bool true := q2; exact ⟨⟨_, q2e, rfl⟩, by simp [go_sem, q0e, q1e, hlt]⟩) ?_
            refine tab_val (.slice ax nx cpx) (fun r w1 hr hg hA => by obtain ⟨⟨_, q0⟩, ⟨_, q1⟩, -⟩ := hA; have q0e : r (.tmp 20) = .pointer (some ⟨b2, o2 + k, none⟩) := q0; have q1e : r (.tmp 17) = .bool true := q1; have hc := CF.out _ (hg1.trans hg); exact ⟨⟨_, q1e, rfl⟩, by simp [go_sem, q0e, hc]⟩) ?_
            refine tab_val (.slice (some ⟨b2, o2, none⟩) n cap) (fun r w1 hr hg hA => by obtain ⟨q0, ⟨_, q1⟩, -⟩ := hA; have q0e : r (.tmp 0) = .slice (some ⟨b2, o2, none⟩) n cap := q0; have q1e : r (.tmp 17) = .bool true := q1; exact ⟨⟨_, q1e, rfl⟩, by simp [go_sem, q0e]⟩) ?_
            refine tab_val (.slice (some ⟨b, off, none⟩) k co) (fun r w1 hr hg hA => by obtain ⟨q0, ⟨_, q1⟩, -⟩ := hA; have q0e : r (.tmp 3) = .slice (some ⟨b, off, none⟩) k co := q0; have q1e : r (.tmp 17) = .bool true := q1; exact ⟨⟨_, q1e, rfl⟩, by simp [go_sem, q0e]⟩) ?_
            refine tab_val (iv ((j : Int) + 1)) (fun r w1 hr hg hA => by obtain ⟨q0, ⟨_, q1⟩, -⟩ := hA; have q0e : r (.tmp 5) = iv ((j : Int) + 1) := q0; have q1e : r (.tmp 17) = .bool true := q1; exact ⟨⟨_, q1e, rfl⟩, by simp [go_sem, q0e]⟩) ?_
            refine tab_val (iv (j : Int)) (fun r w1 hr hg hA => by obtain ⟨⟨_, q0⟩, ⟨_, q1⟩, -⟩ := hA; have q0e : r (.tmp 24) = iv ((j : Int) + 1) := q0; have q1e : r (.tmp 17) = .bool true := q1; exact ⟨⟨_, q1e, rfl⟩, by simp [go_sem, hr.const, q0e, i64w, hwr]⟩) ?_
            refine tab_val (.pointer (some ⟨b, off + j, none⟩)) (fun r w1 hr hg hA => by obtain ⟨⟨_, q0⟩, ⟨_, q1⟩, ⟨_, q2⟩, -⟩ := hA; have q0e : r (.tmp 23) = .slice (some ⟨b, off, none⟩) k co := q0; have q1e : r (.tmp 25) = iv (j : Int) := q1; have q2e : r (.tmp 17) = .bool true := q2; exact ⟨⟨_, q2e, rfl⟩, by simp [go_sem, q0e, q1e, hjk]⟩) ?_
            refine tab_val (iv (m : Int)) (fun r w1 hr hg hA => by obtain ⟨⟨_, q0⟩, ⟨_, q1⟩, -⟩ := hA; have q0e : r (.tmp 26) = .pointer (some ⟨b, off + j, none⟩) := q0; have q1e : r (.tmp 17) = .bool true := q1; have hc := CF.out _ (hg1.trans hg); exact ⟨⟨_, q1e, rfl⟩, by simp [go_sem, q0e, hc]⟩) ?_
            refine tab_val (.pointer (some ⟨b2, o2 + m, none⟩)) (fun r w1 hr hg hA => by obtain ⟨⟨_, q0⟩, ⟨_, q1⟩, ⟨_, q2⟩, -⟩ := hA; have q0e : r (.tmp 22) = .slice (some ⟨b2, o2, none⟩) n cap := q0; have q1e : r (.tmp 27) = iv (m : Int) := q1; have q2e : r (.tmp 17) = .bool true := q2; exact ⟨⟨_, q2e, rfl⟩, by simp [go_sem, q0e, q1e, hm]⟩) ?_
            refine tab_val (.slice ay ny cpy) (fun r w1 hr hg hA => by obtain ⟨⟨_, q0⟩, ⟨_, q1⟩, -⟩ := hA; have q0e : r (.tmp 28) = .pointer (some ⟨b2, o2 + m, none⟩) := q0; have q1e : r (.tmp 17) = .bool true := q1; have hc := CF.out _ (hg1.trans hg); exact ⟨⟨_, q1e, rfl⟩, by simp [go_sem, q0e, hc]⟩) ?_
            refine tab_call (v := iv c) (fun w1 hg => HC.out w1 (hg1.trans hg)) (fun r w1 hr hg hA => by obtain ⟨⟨_, q0⟩, ⟨_, q1⟩, ⟨_, q2⟩, -⟩ := hA; have q0e : r (.tmp 21) = .slice ax nx cpx := q0; have q1e : r (.tmp 29) = .slice ay ny cpy := q1; have q2e : r (.tmp 17) = .bool true := q2; exact ⟨⟨_, q2e, rfl⟩, by simp [go_sem, hr.func, q0e, q1e]⟩) ?_
            refine tab_val (.bool (decide (c < 0))) (fun r w1 hr hg hA => by obtain ⟨⟨_, q0⟩, ⟨_, q1⟩, -⟩ := hA; have q0e : r (.tmp 30) = iv c := q0; have q1e : r (.tmp 17) = .bool true := q1; exact ⟨⟨_, q1e, rfl⟩, by simp [go_sem, hr.const, q0e]⟩) ?_
            refine tab_end ?_
            simp only [List.reverse_cons, List.reverse_nil, List.nil_append, List.cons_append, Out, BlockP, forall_eq, forall_const, Act.put, List.setIfInBounds_toArray, List.set_cons_succ, List.set_cons_zero]
            intro w1 hgA
            have G3' := Lib.hid (G2.out.trans (hg1.trans hgA))
            have GI' := Lib.hid (GI.out.trans (hg1.trans hgA))
            clear hg1 hgA hg1' hw0 hpos hwr
            have e1 : (j : Int) + 1 - 1 = (j : Int) := by omega
            by_cases hc : c < 0
            · have HB2 : Hid (∀ i, j ≤ i → i < k → (rowR L) (k : Int) (D.getD i 0) = true) := Lib.hid fun i hki hil => by
                by_cases he : i = j
                · subst he; rw [HR.out]; exact decide_eq_true hc
                · exact HB.out i (by omega) hil
              clear HB
              go_wp2
              exact ⟨⟨j, by simp, by omega, HB2, GI'⟩, by simp only [intOf]; omega⟩
            · have HK : Hid (placeF (rowR L) (k : Int) D = j + 1) := Lib.hid (place_back (weakRow L) (k : Int) 0 D HDR.out k (j + 1) HDL.out hj HB.out (.inr (by rw [Nat.add_sub_cancel]; rw [HR.out]; exact decide_eq_false hc)))
              clear HB
              have H1 : Hid (∀ w', Grows wo w' → IntsAt w' (.slice (some ⟨b, off, none⟩) (j + 1) co) (D.take (j + 1))) := Lib.hid fun w' hg => (HI.out w' hg).take hj
              have hjc : j + 1 ≤ co := by omega

              by_cases hkc : co = j + 1
              · have hkj : k = j + 1 := by omega
                have H2 : Hid (∀ w', Grows wo w' → IntsAt w' (.slice (some ⟨b, off, none⟩) 0 0) (D.drop (j + 1))) := Lib.hid fun w' hg => by
                  rw [List.drop_eq_nil_iff.2 (by rw [HDL.out]; omega)]
                  exact ⟨Nat.zero_le _, .inl ⟨⟨_, _, rfl, fun h => by cases h⟩, rfl⟩⟩
                subst hkj hkc
                have SZ : Hid ((D.take (j + 1)).length ≤ 2000 ∧ (D.drop (j + 1)).length ≤ 2000) := Lib.hid (by rw [List.length_take, List.length_drop]; have := HDL.out; omega)
                have GS := GI'.out.size
                have PUT := Lib.hid (ins_put (R := (rowR L)) D ((j + 1 : Nat) : Int) _ _ HDL.out HK.out)
                go_wp2_with (at_builtin; first | (refine append_ints rfl _ _ 24 rfl wo.heap.size 3 i0 (.int .i64 0) 8 Try.underlying24 hi0 hi1 hi2 hi3 rfl (.slice (some ⟨w1.heap.size, 0, none⟩) 0 0) 0 [] rfl (ownsRow_base (own_empty (by decide)) GS) (D.take (j + 1)) _ rfl (H1.out _ (GI'.out.al _)) (by have := SZ.out; unfold maxLen; omega) (by have := SZ.out; omega) (by simp only [World.size_alloc]; omega) ?_; intro v3 w3 hown hgr; have O3 := Lib.hid hown; have W3 := Lib.hid (hgr wo (GI'.out.al _) (Nat.le_refl _)); clear hown hgr) | (refine append_ints rfl _ _ 24 rfl wo.heap.size 3 i0 (.int .i64 0) 8 Try.underlying24 hi0 hi1 hi2 hi3 rfl v3 _ _ rfl (ownsRow_grows O3.out (Grows.alloc _ _)) [((j + 1 : Nat) : Int)] _ rfl (ints_block (heap_new _ (.cells #[iv ((j + 1 : Nat) : Int)] 3) _ rfl) rfl (by simp)) (by have := SZ.out; simp only [List.length_singleton]; unfold maxLen; omega) (by have := SZ.out; simp only [List.length_singleton]; omega) (by have := W3.out.size; simp only [World.size_alloc]; omega) ?_; intro v4 w4 hown hgr; have O4 := Lib.hid hown; have W4 := Lib.hid (hgr wo (W3.out.al _) (Nat.le_refl _)); clear hown hgr) | (refine append_ints rfl _ _ 24 rfl wo.heap.size 3 i0 (.int .i64 0) 8 Try.underlying24 hi0 hi1 hi2 hi3 rfl v4 _ _ rfl O4.out (D.drop (j + 1)) _ rfl (H2.out _ W4.out) (by have := SZ.out; simp only [List.length_singleton]; unfold maxLen; omega) (by have := SZ.out; simp only [List.length_singleton]; omega) W4.out.size ?_; intro v5 w5 hown hgr; have O5 := Lib.hid (ownsRow_base hown G.out.size); have G5 := Lib.hid (G.out.trans (hgr wo W4.out (Nat.le_refl _))); clear hown hgr))
                exact ⟨⟨(j + 1) + 1, v5, rfl, by simp, by omega, Lib.hid (by have h5 := O5.out; rw [HDS.out, PUT.out.1, show (j + 1) + 1 = _ from PUT.out.2]; exact h5), G5⟩, by simp only [intOf]; omega⟩
              · have H2 : Hid (∀ w', Grows wo w' → IntsAt w' (.slice (some ⟨b, off + (j + 1), none⟩) (k - (j + 1)) (co - (j + 1))) (D.drop (j + 1))) := Lib.hid fun w' hg => (HI.out w' hg).drop hj
                have SZ : Hid ((D.take (j + 1)).length ≤ 2000 ∧ (D.drop (j + 1)).length ≤ 2000) := Lib.hid (by rw [List.length_take, List.length_drop]; have := HDL.out; omega)
                have GS := GI'.out.size
                have PUT := Lib.hid (ins_put (R := (rowR L)) D (k : Int) _ _ HDL.out HK.out)
                go_wp2_with (at_builtin; first | (refine append_ints rfl _ _ 24 rfl wo.heap.size 3 i0 (.int .i64 0) 8 Try.underlying24 hi0 hi1 hi2 hi3 rfl (.slice (some ⟨w1.heap.size, 0, none⟩) 0 0) 0 [] rfl (ownsRow_base (own_empty (by decide)) GS) (D.take (j + 1)) _ rfl (H1.out _ (GI'.out.al _)) (by have := SZ.out; unfold maxLen; omega) (by have := SZ.out; omega) (by simp only [World.size_alloc]; omega) ?_; intro v3 w3 hown hgr; have O3 := Lib.hid hown; have W3 := Lib.hid (hgr wo (GI'.out.al _) (Nat.le_refl _)); clear hown hgr) | (refine append_ints rfl _ _ 24 rfl wo.heap.size 3 i0 (.int .i64 0) 8 Try.underlying24 hi0 hi1 hi2 hi3 rfl v3 _ _ rfl (ownsRow_grows O3.out (Grows.alloc _ _)) [(k : Int)] _ rfl (ints_block (heap_new _ (.cells #[iv (k : Int)] 3) _ rfl) rfl (by simp)) (by have := SZ.out; simp only [List.length_singleton]; unfold maxLen; omega) (by have := SZ.out; simp only [List.length_singleton]; omega) (by have := W3.out.size; simp only [World.size_alloc]; omega) ?_; intro v4 w4 hown hgr; have O4 := Lib.hid hown; have W4 := Lib.hid (hgr wo (W3.out.al _) (Nat.le_refl _)); clear hown hgr) | (refine append_ints rfl _ _ 24 rfl wo.heap.size 3 i0 (.int .i64 0) 8 Try.underlying24 hi0 hi1 hi2 hi3 rfl v4 _ _ rfl O4.out (D.drop (j + 1)) _ rfl (H2.out _ W4.out) (by have := SZ.out; simp only [List.length_singleton]; unfold maxLen; omega) (by have := SZ.out; simp only [List.length_singleton]; omega) W4.out.size ?_; intro v5 w5 hown hgr; have O5 := Lib.hid (ownsRow_base hown G.out.size); have G5 := Lib.hid (G.out.trans (hgr wo W4.out (Nat.le_refl _))); clear hown hgr))
                exact ⟨⟨k + 1, v5, rfl, by simp, by omega, Lib.hid (by have h5 := O5.out; rw [HDS.out, PUT.out.1, show k + 1 = _ from PUT.out.2]; exact h5), G5⟩, by simp only [intOf]; omega⟩
    · have hke : k = n := by omega
      subst hke
      rw [HALL.out] at HO
      go_wp2
      go_ret
      exact ⟨_, rfl, by rw [sortF_length, idx_len]; exact HO.out, G.out⟩
end Go.Proofs.Ytigbojdnaeaojaa
