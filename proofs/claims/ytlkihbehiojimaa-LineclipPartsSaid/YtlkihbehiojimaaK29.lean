/-
  Layer 22: the parts of a row, as the document has them.
-/
import Derived.Test.YtlkihbehiojimaaK28
import Derived.Test.YtlkihbehiojimaaK26
import Derived.Test.YtlkihbehiojimaaK23
namespace Go.Proofs.Ytlkihbehiojimaa
open Go.RowKit Go.Tab Go.WideShapes

/-- What the document's function holds. -/
def PState (base : Nat) (wr : World) (o : Value) (goes : Bool) (S : List Row2) : Prop :=
  (goes = false ∧ ∃ vs : List Value, wr.ownsRow base 28 1 o vs.length vs ∧ Fin 30 wr.heap.size wr vs S) ∨
  (goes = true ∧ ∃ (fs : List Value) (x : Value) (S0 : List Row2) (r : Row2) (B : Nat), S = S0 ++ [r] ∧ wr.ownsRow base 28 1 o (fs ++ [x]).length (fs ++ [x]) ∧ Fin 30 B wr fs S0 ∧ wr.ownsRow B 30 2 x r.length (flat r) ∧ r ≠ [] ∧ r.length ≤ 1000 ∧ base ≤ B ∧ B ≤ wr.heap.size)
theorem own_pair (w : World) (x y : Int) (T : TypeId) : (w.alloc (.cells #[.int .i64 x, .int .i64 y] T)).ownsRow w.heap.size T 2 (.slice (some ⟨w.heap.size, 0, none⟩) 1 1) 1 [.int .i64 x, .int .i64 y] :=
  ⟨rfl, .inr ⟨w.heap.size, 1, #[.int .i64 x, .int .i64 y], rfl, Nat.le_refl _, heap_new _ _ _ rfl, Nat.le_refl _, by unfold maxLen; decide, rfl, rfl⟩⟩
theorem PState.stop {base : Nat} {wr : World} {o : Value} {goes : Bool} {S : List Row2} (h : PState base wr o goes S) : PState base wr o false S := by
  rcases h with h | ⟨_, fs, x, S0, r, B, rfl, h1, h2, h3, h4, h5, h6, h7⟩
  · exact .inl ⟨rfl, h.2⟩
  · exact .inl ⟨rfl, fs ++ [x], h1, (h2.more h7).push (own_one h3).1 (by omega) (own_base h3 (Nat.zero_le _)) (fun k hk => (own_lt h3 k hk).2)⟩
theorem PState.grows {base : Nat} {w w' : World} {o : Value} {goes : Bool} {S : List Row2} (h : PState base w o goes S) (hg : Grows w w') : PState base w' o goes S := by
  rcases h with ⟨h0, vs, h1, h2⟩ | ⟨h0, fs, x, S0, r, B, rfl, h1, h2, h3, h4, h5, h6, h7⟩
  · exact .inl ⟨h0, vs, ownsRow_later h1 hg, (h2.grows hg).more hg.size⟩
  · exact .inr ⟨h0, fs, x, S0, r, B, rfl, ownsRow_later h1 hg, h2.grows hg, ownsRow_later h3 hg, h4, h5, h6, Nat.le_trans h7 hg.size⟩
theorem PState.rows {base : Nat} {w : World} {o : Value} {goes : Bool} {S : List Row2} (h : PState base w o goes S) : RowsAt w o S := by
  rcases h.stop with ⟨_, vs, h1, h2⟩ | ⟨h, _⟩
  · exact rows_own h1 h2
  · cases h

set_option maxRecDepth 100000 in
set_option maxHeartbeats 8000000 in
theorem rparts_any (u : Value) (l : List (Int × Int)) (b : BoxI) (w : World) (hu : PtsAt w u l) (hn : l.length ≤ 1000) :
    Calls Try.prog 15 #[u, bx b] w (fun e w' => ∃ v, e = .returned v ∧ RowsAt w' v ((partsI (shS b l) l.length 0).map (prow l)) ∧ Grows w w') := by
  obtain ⟨i0, hi0, hz0, hz1, hz2⟩ := info_parts infoRow
  obtain ⟨j0, hj0, hy0, hy1, hy2⟩ := info_parts infoRP
  obtain ⟨a, c, rfl, hnc, -⟩ := hu.shape
  have HU := Lib.hid hu
  obtain ⟨n, hln⟩ : ∃ n, n = l.length := ⟨_, rfl⟩
  rw [← hln] at hn hnc HU ⊢
  have HN := Lib.hid hln
  clear hu hln
  obtain ⟨s, hs⟩ : ∃ s, s = shS b l := ⟨_, rfl⟩
  have HS := Lib.hid (fun k => (show s k = shownB (gp l k).1 (gp l k).2 (gp l (k + 1)).1 (gp l (k + 1)).2 b by rw [hs]; rfl))
  rw [← hs]
  clear hs
  obtain ⟨lx, ly, hx, hy⟩ := b
  have BX : Hid (∀ w', Grows (w.alloc (.cells #[.int .i64 lx, .int .i64 ly, .int .i64 hx, .int .i64 hy] 32)) w' →
      w'.cell? ⟨w.heap.size, 0, none⟩ = some (.int .i64 lx) ∧ w'.cell? ⟨w.heap.size, 1, none⟩ = some (.int .i64 ly) ∧ w'.cell? ⟨w.heap.size, 2, none⟩ = some (.int .i64 hx) ∧ w'.cell? ⟨w.heap.size, 3, none⟩ = some (.int .i64 hy)) := Lib.hid fun w' hg => cells4 (hg.block (heap_new _ _ _ rfl))
  go_enter Try.func15, Try.ntmps15
  go_wp2
  go_loopw [5, 6, 7] (fun o' g' i wr => ∃ (k : Nat) (o : Value) (goes : Bool), o = o' ∧ .bool goes = g' ∧ i = .int .i64 ((k : Int) + 1) ∧ Hid ((k = 0 ∧ n = 0 ∧ goes = false ∧ PState (w.heap.size + 1) wr o false [] ) ∨ (k < n ∧ (goes = true → 1 ≤ k ∧ s (k - 1) = true) ∧ (goes = false → k = 0 ∨ s (k - 1) = false) ∧ PState (w.heap.size + 1) wr o goes ((partsI s (k + 1) 0).map (prow l)))) ∧ Hid (Grows (w.alloc (.cells #[.int .i64 lx, .int .i64 ly, .int .i64 hx, .int .i64 hy] 32)) wr)) (fun _ _ i _ => 1002 - (intOf i).toNat)
  case atStart =>
    refine ⟨0, _, false, rfl, rfl, by simp, Lib.hid ?_, Lib.hid (Grows.refl _)⟩
    by_cases h0 : n = 0
    · exact .inl ⟨rfl, h0, rfl, .inl ⟨rfl, [], World.ownsRow_nil _ _ _ _, Fin.nil _ _ _⟩⟩
    · exact .inr ⟨by omega, (fun h => by cases h), fun _ => .inl rfl, .inl ⟨rfl, [], World.ownsRow_nil _ _ _ _, by rw [parts_one]; exact Fin.nil _ _ _⟩⟩
  case round =>
    obtain ⟨j, o, goes, rfl, rfl, rfl, HP, G⟩ := hrel
    by_cases hjn1 : j + 1 < n
    · obtain ⟨hk, HT, HFf, hps⟩ : j < n ∧ (goes = true → 1 ≤ j ∧ s (j - 1) = true) ∧ (goes = false → j = 0 ∨ s (j - 1) = false) ∧ PState (w.heap.size + 1) wr o goes ((partsI s (j + 1) 0).map (prow l)) := by
        rcases HP.out with ⟨_, h, _⟩ | h
        · omega
        · exact h
      have HT := Lib.hid HT
      have HFf := Lib.hid HFf
      have HPS := Lib.hid hps
      clear HP hk hps
      obtain ⟨ba, oa, rfl, hba, -, -⟩ := HU.out.at_ (i := j) (by rw [← HN.out]; omega)
      have hp0 := fun w' (hg : Grows (w.alloc (.cells #[.int .i64 lx, .int .i64 ly, .int .i64 hx, .int .i64 hy] 32)) w') => (HU.out.grows (((Grows.refl w).al _).trans hg)).at_cell (i := j) (by rw [← HN.out]; omega)
      have hq0 := fun w' (hg : Grows (w.alloc (.cells #[.int .i64 lx, .int .i64 ly, .int .i64 hx, .int .i64 hy] 32)) w') => (HU.out.grows (((Grows.refl w).al _).trans hg)).at_cell (i := j + 1) (by rw [← HN.out]; omega)
      have HSJ := Lib.hid (HS.out j)
      have HPN := Lib.hid (prow_new l (j + 1) (by omega) (by rw [← HN.out]; omega))
      have HPO := Lib.hid (fun a ha => prow_on l a (j + 1) ha (by rw [← HN.out]; omega))
      rw [Nat.add_sub_cancel] at HPN HPO
      unfold gp at HSJ
      generalize l.getD j (0, 0) = p at hp0 HSJ HPN
      generalize l.getD (j + 1) (0, 0) = q at hq0 HSJ HPN HPO
      obtain ⟨px, py⟩ := p
      obtain ⟨qx, qy⟩ := q
      simp only at hp0 hq0 HSJ
      have CFB : Hid (∀ w', Grows (w.alloc (.cells #[.int .i64 lx, .int .i64 ly, .int .i64 hx, .int .i64 hy] 32)) w' → (w'.cell? ⟨ba, oa + j * 2, none⟩ = some (.int .i64 px) ∧ w'.cell? ⟨ba, oa + j * 2 + 1, none⟩ = some (.int .i64 py)) ∧ (w'.cell? ⟨ba, oa + (j + 1) * 2, none⟩ = some (.int .i64 qx) ∧ w'.cell? ⟨ba, oa + (j + 1) * 2 + 1, none⟩ = some (.int .i64 qy)) ∧
        (w'.cell? ⟨w.heap.size, 0, none⟩ = some (.int .i64 lx) ∧ w'.cell? ⟨w.heap.size, 1, none⟩ = some (.int .i64 ly) ∧ w'.cell? ⟨w.heap.size, 2, none⟩ = some (.int .i64 hx) ∧ w'.cell? ⟨w.heap.size, 3, none⟩ = some (.int .i64 hy))) := Lib.hid fun w' hg => ⟨hp0 w' hg, hq0 w' hg, BX.out w' hg⟩
      have CF := Lib.hid (fun w' (hg : Grows wr w') => CFB.out w' (G.out.trans hg))
      clear hp0 hq0
      have H1 := Lib.hid (fun w => rshown_any px py qx qy ⟨lx, ly, hx, hy⟩ w)
      rw [← HSJ.out] at H1
      obtain ⟨m, hm⟩ : ∃ m, m = s j := ⟨_, rfl⟩
      rw [← hm] at H1
      have HM := Lib.hid hm.symm
      clear HSJ hm
      have hjn : j < n := by omega
      have hs1 : (0 : Int) ≤ (j : Int) + 1 := Int.add_nonneg (Int.natCast_nonneg j) (by decide)
      have hs2 : ¬ ((n : Int) ≤ (j : Int) + 1) := fun h => absurd (Int.ofNat_le.1 (show ((n : Nat) : Int) ≤ ((j + 1 : Nat) : Int) from h)) (Nat.not_le.2 hjn1)
      have hwr : wrap64 (j : Int) = (j : Int) := by unfold wrap64; omega
      go_wp2_with fail
      refine wp_region_tab 11 (by kernel_rfl) (by kernel_rfl) ?_
      intro w0 hw0 hg1 hg1'
      simp only [List.take_succ_cons, List.take_zero, List.drop_succ_cons, List.drop_zero]
      refine tab_val (.slice (some ⟨ba, oa, none⟩) n c) (fun r w1 hr hg hA => by obtain ⟨q0, -⟩ := hA; have q0e : r (.tmp 0) = .slice (some ⟨ba, oa, none⟩) n c := q0; exact ⟨rfl, by simp [go_sem, q0e]⟩) ?_
      refine tab_val (.int .i64 ((j : Int) + 1)) (fun r w1 hr hg hA => by obtain ⟨q0, -⟩ := hA; have q0e : r (.tmp 7) = .int .i64 ((j : Int) + 1) := q0; exact ⟨rfl, by simp [go_sem, q0e]⟩) ?_
      refine tab_val (.int .i64 (j : Int)) (fun r w1 hr hg hA => by obtain ⟨⟨_, q0⟩, -⟩ := hA; have q0e : r (.tmp 17) = .int .i64 ((j : Int) + 1) := q0; exact ⟨rfl, by simp [go_sem, hr.const, q0e, i64w, hwr]⟩) ?_
      refine tab_val (.pointer (some ⟨ba, oa + j * 2, none⟩)) (fun r w1 hr hg hA => by obtain ⟨⟨_, q0⟩, ⟨_, q1⟩, -⟩ := hA; have q0e : r (.tmp 16) = .slice (some ⟨ba, oa, none⟩) n c := q0; have q1e : r (.tmp 18) = .int .i64 (j : Int) := q1; exact ⟨rfl, by simp [go_sem, q0e, q1e, hjn]⟩) ?_
      refine tab_val (.agg #[.int .i64 px, .int .i64 py]) (fun r w1 hr hg hA => by obtain ⟨⟨_, q0⟩, -⟩ := hA; have q0e : r (.tmp 19) = .pointer (some ⟨ba, oa + j * 2, none⟩) := q0; have hc := CF.out w1 (hg1.trans hg); exact ⟨rfl, by simp [go_sem, q0e, hc]⟩) ?_
      refine tab_val (.slice (some ⟨ba, oa, none⟩) n c) (fun r w1 hr hg hA => by obtain ⟨q0, -⟩ := hA; have q0e : r (.tmp 0) = .slice (some ⟨ba, oa, none⟩) n c := q0; exact ⟨rfl, by simp [go_sem, q0e]⟩) ?_
      refine tab_val (.int .i64 ((j : Int) + 1)) (fun r w1 hr hg hA => by obtain ⟨q0, -⟩ := hA; have q0e : r (.tmp 7) = .int .i64 ((j : Int) + 1) := q0; exact ⟨rfl, by simp [go_sem, q0e]⟩) ?_
      refine tab_val (.pointer (some ⟨ba, oa + (j + 1) * 2, none⟩)) (fun r w1 hr hg hA => by obtain ⟨⟨_, q0⟩, ⟨_, q1⟩, -⟩ := hA; have q0e : r (.tmp 21) = .slice (some ⟨ba, oa, none⟩) n c := q0; have q1e : r (.tmp 22) = .int .i64 ((j : Int) + 1) := q1; exact ⟨rfl, by simp [go_sem, q0e, q1e, hs1, hs2]⟩) ?_
      refine tab_val (.agg #[.int .i64 qx, .int .i64 qy]) (fun r w1 hr hg hA => by obtain ⟨⟨_, q0⟩, -⟩ := hA; have q0e : r (.tmp 23) = .pointer (some ⟨ba, oa + (j + 1) * 2, none⟩) := q0; have hc := CF.out w1 (hg1.trans hg); exact ⟨rfl, by simp [go_sem, q0e, hc]⟩) ?_
      refine tab_val (.agg #[.int .i64 lx, .int .i64 ly, .int .i64 hx, .int .i64 hy]) (fun r w1 hr hg hA => by obtain ⟨q0, -⟩ := hA; have q0e : r (.tmp 3) = .pointer (some ⟨w.heap.size, 0, none⟩) := q0; have hc := CF.out w1 (hg1.trans hg); exact ⟨rfl, by simp [go_sem, q0e, hc]⟩) ?_
      refine tab_call (v := .bool m) (fun w1 hg => H1.out w1) (fun r w1 hr hg hA => by obtain ⟨⟨_, q0⟩, ⟨_, q1⟩, ⟨_, q2⟩, -⟩ := hA; have q0e : r (.tmp 20) = .agg #[.int .i64 px, .int .i64 py] := q0; have q1e : r (.tmp 24) = .agg #[.int .i64 qx, .int .i64 qy] := q1; have q2e : r (.tmp 25) = .agg #[.int .i64 lx, .int .i64 ly, .int .i64 hx, .int .i64 hy] := q2; exact ⟨rfl, by simp [go_sem, hr.func, q0e, q1e, q2e]⟩) ?_
      refine tab_end ?_
      simp only [List.reverse_cons, List.reverse_nil, List.nil_append, List.cons_append, Out, BlockP, forall_eq, forall_const, Act.put, List.setIfInBounds_toArray, List.set_cons_succ, List.set_cons_zero]
      intro wA hgA
      have GA0 := Lib.hid (hg1.trans hgA)
      have GA := Lib.hid (G.out.trans GA0.out)
      clear hg1 hgA hg1' hw0
      clear hwr hs1 hs2
      have HP2 := Lib.hid (HPS.out.grows GA0.out)
      have CF2 := Lib.hid (fun w' (hg : Grows wA w') => CF.out w' (GA0.out.trans hg))
      clear HPS CF
      cases m with
      | false =>
        go_wp2
        exact ⟨⟨j + 1, _, false, rfl, rfl, by simp, Lib.hid (.inr ⟨hjn1, (fun h => by cases h), fun _ => .inr (by rw [Nat.add_sub_cancel]; exact HM.out), by rw [parts_skip s (j + 1) (by omega) (by rw [Nat.add_sub_cancel]; exact HM.out)]; exact HP2.out.stop⟩), GA⟩, by simp only [intOf]; omega⟩
      | true =>
        have e0 : (j : Int) + 1 - 1 = (j : Int) := by omega
        cases goes with
        | true =>
          obtain ⟨h1j, hsj⟩ := HT.out rfl
          obtain ⟨D, a, haj, hD1, hD2⟩ := parts_on s (j + 1) (by omega) (by rw [Nat.add_sub_cancel]; exact HM.out) (by rw [show j + 1 - 2 = j - 1 by omega]; exact hsj)
          rw [Nat.add_sub_cancel] at haj hD1
          obtain ⟨fs, x, S0, r, B, hSS, hO, hFI, hX, hne, hrl, hB1, hB2⟩ : ∃ (fs : List Value) (x : Value) (S0 : List Row2) (r : Row2) (B : Nat), (partsI s (j + 1) 0).map (prow l) = S0 ++ [r] ∧ wA.ownsRow (w.heap.size + 1) 28 1 o (fs ++ [x]).length (fs ++ [x]) ∧ Fin 30 B wA fs S0 ∧ wA.ownsRow B 30 2 x r.length (flat r) ∧ r ≠ [] ∧ r.length ≤ 1000 ∧ w.heap.size + 1 ≤ B ∧ B ≤ wA.heap.size := by
            rcases HP2.out with ⟨h, _⟩ | ⟨_, h⟩
            · cases h
            · exact h
          obtain ⟨e1, e2⟩ := List.append_inj' (hSS.symm.trans (by rw [hD1, List.map_append]; rfl) : S0 ++ [r] = D.map (prow l) ++ [prow l (a, j)]) (by simp)
          have e2 : r = prow l (a, j) := by simpa using e2
          have hlen := prow_len l (a, j) haj (by rw [← HN.out]; exact hjn)
          have HNX : Hid ((partsI s (j + 1 + 1) 0).map (prow l) = S0 ++ [r ++ [(qx, qy)]]) := Lib.hid (by rw [hD2, List.map_append, e1, e2, ← HPO.out a haj]; rfl)
          have HRI : Hid (r.length + 1 ≤ 1000) := Lib.hid (by rw [e2, hlen]; show j - a + 1 + 1 ≤ 1000; omega)
          have HS0 : Hid (S0.length ≤ 1000) := Lib.hid (by have h5 := parts_len s (j + 1); have h6 := congrArg List.length hSS; rw [List.length_map, List.length_append, List.length_singleton] at h6; omega)
          have HNE := Lib.hid hne
          have HRL := Lib.hid hrl
          have HO := Lib.hid hO
          have HFI := Lib.hid hFI
          have HX := Lib.hid hX
          clear e1 e2 hlen hne hrl hO hFI hX hSS hD1 hD2 haj hsj h1j HP2
          obtain ⟨rj, hrj⟩ : ∃ k, r.length = k + 1 := ⟨r.length - 1, by have := List.length_pos_iff.2 HNE.out; omega⟩
          have HRJ := Lib.hid hrj
          rw [hrj] at HX
          have hrj5 : rj + 1 ≤ 1000 := by rw [← hrj]; exact HRL.out
          obtain ⟨bc, cu, rfl⟩ := own_succ HX.out
          obtain ⟨f, hf⟩ : ∃ f, f = fs.length := ⟨_, rfl⟩
          have HFL := Lib.hid hf
          have hf1 : f ≤ 1000 := by rw [hf, HFI.out.1]; have := HS0.out; omega
          clear hf hrj
          have HX2 := Lib.hid (ownsRow_later HX.out ((Grows.refl wA).dr))
          have HX3 : Hid ((wA.drew.alloc (.cells #[.int .i64 qx, .int .i64 qy] 30)).ownsRow B 30 2 (.slice (some ⟨bc, 0, none⟩) (rj + 1) cu) (rj + 1) (flat r)) := Lib.hid (ownsRow_later HX2.out (Grows.alloc _ _))
          have HO3 : Hid ((wA.drew.alloc (.cells #[.int .i64 qx, .int .i64 qy] 30)).ownsRow (w.heap.size + 1) 28 1 o (fs ++ [Value.slice (some ⟨bc, 0, none⟩) (rj + 1) cu]).length (fs ++ [Value.slice (some ⟨bc, 0, none⟩) (rj + 1) cu])) := Lib.hid (ownsRow_later (ownsRow_later HO.out ((Grows.refl wA).dr)) (Grows.alloc _ _))
          have HF3 : Hid (Fin 30 B (wA.drew.alloc (.cells #[.int .i64 qx, .int .i64 qy] 30)) fs S0) := Lib.hid ((HFI.out.grows ((Grows.refl wA).dr)).grows (Grows.alloc _ _))
          have HR3 : Hid (RowAt 2 (wA.drew.alloc (.cells #[.int .i64 qx, .int .i64 qy] 30)) (.slice (some ⟨wA.heap.size, 0, none⟩) 1 1) 1 [.int .i64 qx, .int .i64 qy]) := Lib.hid (rowP wA.drew _ _ _ rfl rfl)
          obtain ⟨bo, co, eo, hco, hbo1, hbo2, xc, xf, -⟩ := own_last HO.out
          cases eo
          have xcA : (wA.alloc (.cells #[.int .i64 qx, .int .i64 qy] 30)).cell? ⟨bo, fs.length, none⟩ = some (.slice (some ⟨bc, 0, none⟩) (rj + 1) cu) := by rw [Below.cell (Grows.alloc wA _) (p := ⟨bo, fs.length, none⟩) hbo2]; exact xc
          rw [← HFL.out] at hco xc xf xcA ⊢
          have hBB : B ≤ (wA.drew.alloc (.cells #[.int .i64 qx, .int .i64 qy] 30)).heap.size := by rw [World.size_alloc]; exact Nat.le_succ_of_le hB2
          have hBw : (w.alloc (.cells #[.int .i64 lx, .int .i64 ly, .int .i64 hx, .int .i64 hy] 32)).heap.size ≤ (wA.drew.alloc (.cells #[.int .i64 qx, .int .i64 qy] 30)).heap.size := by rw [World.size_alloc wA.drew]; exact Nat.le_succ_of_le GA.out.size
          have hWB : (w.alloc (.cells #[.int .i64 lx, .int .i64 ly, .int .i64 hx, .int .i64 hy] 32)).heap.size ≤ B := by rw [World.size_alloc]; exact hB1
          obtain ⟨-, ⟨q0, q1⟩, -⟩ := CF2.out _ (Grows.refl _)
          have x0 : (f : Int) + 1 - 1 = (f : Int) := by omega
          have x1 : (0 : Int) ≤ (f : Int) := by omega
          have x2 : (f : Int) < (f : Int) + 1 := by omega
          have jx1 : (0 : Int) ≤ (j : Int) + 1 := by omega
          have jx2 : (j : Int) + 1 < (n : Int) := by omega
          clear hbo1 hbo2
          go_wp2_with fail
          go_region_law ((refine step_append_row (by rfl) _ _ _ (by rfl) B 30 j0 _ 2 16 Try.underlying28 hj0 hy0 hy1 hy2 rfl (by decide) (.slice (some ⟨bc, 0, none⟩) (rj + 1) cu) (rj + 1) _ (by rfl) HX3.out 1 _ (.slice (some ⟨wA.heap.size, 0, none⟩) 1 1) (by rfl) HR3.out (by unfold maxLen; omega) (by omega) hBB ?_; intro v5 w5 hown5 hgr5; have O5 := Lib.hid hown5; have F5 := Lib.hid (HF3.out.beyond hgr5 (fun k hk => (own_lt HX3.out k hk).1)); have Q5 := Lib.hid (own_other HX3.out HO3.out (by decide) hgr5); have G5 : Hid (Grows (w.alloc (.cells #[.int .i64 lx, .int .i64 ly, .int .i64 hx, .int .i64 hy] 32)) w5) := Lib.hid (Below.grown (GA.out.dr.al _) hgr5 hBw (fun kk hkk => Nat.le_trans hWB (own_lt HX3.out kk hkk).1)); have S5 := Lib.hid hgr5.size; clear hown5 hgr5; obtain ⟨g1, c1, e1, -, y1, y3, y4, y5, y6⟩ := own_last Q5.out; cases e1; rw [← HFL.out] at y4 y5 y6; obtain ⟨b5, c5, rfl⟩ := own_succ O5.out; have Y6 := Lib.hid y6; clear y6))
          all_goals
            have HU := Lib.hid (Y6.out (.slice (some ⟨b5, 0, none⟩) (rj + 1 + 1) c5) rfl)
            have hgs := grown_set w5 bo f (.slice (some ⟨b5, 0, none⟩) (rj + 1 + 1) c5)
            have F6 := Lib.hid (F5.out.other Q5.out (by decide) hgs)
            have O6 := Lib.hid (own_other Q5.out O5.out (by decide) hgs)
            have G6 := Lib.hid (G5.out.st (p := ⟨bo, f, none⟩) (by rw [World.size_alloc]; exact y1) (.slice (some ⟨b5, 0, none⟩) (rj + 1 + 1) c5))
            have S6 := Lib.hid hgs.size
            clear hgs y1 y3 y4 y5 x1 x2
            go_wp2
            refine ⟨⟨j + 1, _, true, rfl, rfl, by simp, Lib.hid (.inr ⟨hjn1, fun _ => ⟨by omega, by rw [Nat.add_sub_cancel]; exact HM.out⟩, (fun h => by cases h), ?_⟩), G6⟩, by simp only [intOf]; omega⟩
            rw [HNX.out]
            exact .inr ⟨rfl, fs, _, S0, r ++ [(qx, qy)], B, rfl, (by have h1 := HU.out; rw [List.length_append, List.length_singleton, ← HFL.out]; exact h1), F6.out, (by rw [List.length_append, HRJ.out, flat_append]; exact O6.out), (by simp), (by rw [List.length_append, HRJ.out, List.length_singleton]; have := HRI.out; rw [HRJ.out] at this; omega), hB1, Nat.le_trans hBB (Nat.le_trans S5.out S6.out)⟩
        | false =>
          have hnew := parts_new s (j + 1) (by omega) (by rw [Nat.add_sub_cancel]; exact HM.out) (by rcases HFf.out rfl with h | h; exact .inl (by omega); exact .inr (by rw [show j + 1 - 2 = j - 1 by omega]; exact h))
          rw [Nat.add_sub_cancel] at hnew
          obtain ⟨vs, hO, hFI⟩ : ∃ vs : List Value, wA.ownsRow (w.heap.size + 1) 28 1 o vs.length vs ∧ Fin 30 wA.heap.size wA vs ((partsI s (j + 1) 0).map (prow l)) := by
            rcases HP2.out with ⟨_, h⟩ | ⟨h, _⟩
            · exact h
            · cases h
          obtain ⟨S0, hS0⟩ : ∃ S0, S0 = (partsI s (j + 1) 0).map (prow l) := ⟨_, rfl⟩
          have HNX : Hid ((partsI s (j + 1 + 1) 0).map (prow l) = S0 ++ [[(px, py)] ++ [(qx, qy)]]) := Lib.hid (by rw [hnew, List.map_append, hS0, ← HPN.out]; rfl)
          rw [← hS0] at hFI
          have HS0 : Hid (S0.length ≤ 1000) := Lib.hid (by rw [hS0, List.length_map]; have h5 := parts_len s (j + 1); omega)
          have HVL : Hid (vs.length ≤ 1000) := Lib.hid (by rw [hFI.1]; exact HS0.out)
          have HOV := Lib.hid hO
          have HFV := Lib.hid hFI
          clear hS0 hnew hO hFI HP2
          obtain ⟨⟨p0, p1⟩, -, -⟩ := CF2.out _ (Grows.refl _)
          have HNP : Hid ((wA.alloc (.cells #[.int .i64 px, .int .i64 py] 30)).ownsRow wA.heap.size 30 2 (.slice (some ⟨wA.heap.size, 0, none⟩) 1 1) 1 [.int .i64 px, .int .i64 py]) := Lib.hid (own_pair wA px py 30)
          have HSZ := Lib.hid GA.out.size
          have hvl := HVL.out
          have x0v : (vs.length : Int) + 1 - 1 = (vs.length : Int) := by omega
          go_wp2_with (at_builtin; go_loud (refine append_row2 rfl _ _ 40 rfl (w.heap.size + 1) 28 i0 _ 1 24 Try.underlying40 hi0 hz0 hz1 hz2 rfl (by decide) o vs.length _ rfl (ownsRow_later HOV.out (((Grows.refl _).al _).al _)) 1 [.slice (some ⟨wA.heap.size, 0, none⟩) 1 1] _ rfl (rowOne _ _ _ _ (by simp only [World.size_alloc]) rfl) (by have := HVL.out; unfold maxLen; omega) (by have := HVL.out; omega) (by have := HSZ.out; simp only [World.size_alloc] at this ⊢; omega) ?_; intro v4 w4 hown4 hgr4; have O4 := Lib.hid hown4; have X4 := Lib.hid (own_other (ownsRow_later HOV.out (((Grows.refl _).al _).al _)) (ownsRow_later HNP.out (Grows.alloc _ _)) (by decide) hgr4); have F4 := Lib.hid ((HFV.out.grows (((Grows.refl _).al _).al _)).other (ownsRow_later HOV.out (((Grows.refl _).al _).al _)) (by decide) hgr4); have S4 := Lib.hid hgr4.size; have G4 : Hid (Grows (w.alloc (.cells #[.int .i64 lx, .int .i64 ly, .int .i64 hx, .int .i64 hy] 32)) w4) := Lib.hid (Below.grown ((GA.out.al _).al _) hgr4 (by have := HSZ.out; simp only [World.size_alloc] at this ⊢; omega) (fun kk hkk => by have h1 := (own_lt HOV.out kk hkk).1; rw [World.size_alloc]; exact h1)); clear hown4 hgr4 p0 p1; obtain ⟨g4, c4, rfl⟩ := own_succ O4.out))
          obtain ⟨r, hr⟩ : ∃ r : Row2, r = [(px, py)] := ⟨_, rfl⟩
          rw [← hr] at HNX
          have HRL : Hid (r.length ≤ 1000) := Lib.hid (by rw [hr, List.length_singleton]; decide)
          have HRI : Hid (r.length + 1 ≤ 1000) := Lib.hid (by rw [hr, List.length_singleton]; decide)
          have HNE : Hid (r ≠ []) := Lib.hid (by rw [hr]; simp)
          obtain ⟨fs, hfs⟩ : ∃ fs, fs = vs := ⟨_, rfl⟩
          obtain ⟨B, hB⟩ : ∃ B, B = wA.heap.size := ⟨_, rfl⟩
          obtain ⟨x, hxv⟩ : ∃ x, x = Value.slice (some ⟨wA.heap.size, 0, none⟩) 1 1 := ⟨_, rfl⟩
          have HO : Hid (w4.ownsRow (w.heap.size + 1) 28 1 (.slice (some ⟨g4, 0, none⟩) (fs.length + 1) c4) (fs ++ [x]).length (fs ++ [x])) := Lib.hid (by rw [hfs, hxv, List.length_append]; exact O4.out)
          have HFI : Hid (Fin 30 B w4 fs S0) := Lib.hid (by rw [hB, hfs]; exact F4.out)
          have HX : Hid (w4.ownsRow B 30 2 x r.length (flat r)) := Lib.hid (by rw [hB, hxv, hr]; exact X4.out)
          have hB1 : w.heap.size + 1 ≤ B := by rw [hB]; have := HSZ.out; rw [World.size_alloc] at this; exact this
          have hB2 : B ≤ w4.heap.size := by rw [hB]; have := S4.out; simp only [World.size_alloc] at this; omega
          rw [← hfs]
          clear hr hfs hB hxv HVL HOV HFV HNP O4 X4 F4 hvl x0v
          obtain ⟨rj, hrj⟩ : ∃ k, r.length = k + 1 := ⟨r.length - 1, by have := List.length_pos_iff.2 HNE.out; omega⟩
          have HRJ := Lib.hid hrj
          rw [hrj] at HX
          have hrj5 : rj + 1 ≤ 1000 := by rw [← hrj]; exact HRL.out
          obtain ⟨bc, cu, rfl⟩ := own_succ HX.out
          obtain ⟨f, hf⟩ : ∃ f, f = fs.length := ⟨_, rfl⟩
          have HFL := Lib.hid hf
          have hf1 : f ≤ 1000 := by rw [hf, HFI.out.1]; have := HS0.out; omega
          clear hf hrj
          have HX2 := Lib.hid (ownsRow_later HX.out ((Grows.refl w4).dr))
          have HX3 : Hid ((w4.drew.alloc (.cells #[.int .i64 qx, .int .i64 qy] 30)).ownsRow B 30 2 (.slice (some ⟨bc, 0, none⟩) (rj + 1) cu) (rj + 1) (flat r)) := Lib.hid (ownsRow_later HX2.out (Grows.alloc _ _))
          have HO3 : Hid ((w4.drew.alloc (.cells #[.int .i64 qx, .int .i64 qy] 30)).ownsRow (w.heap.size + 1) 28 1 (.slice (some ⟨g4, 0, none⟩) (fs.length + 1) c4) (fs ++ [Value.slice (some ⟨bc, 0, none⟩) (rj + 1) cu]).length (fs ++ [Value.slice (some ⟨bc, 0, none⟩) (rj + 1) cu])) := Lib.hid (ownsRow_later (ownsRow_later HO.out ((Grows.refl w4).dr)) (Grows.alloc _ _))
          have HF3 : Hid (Fin 30 B (w4.drew.alloc (.cells #[.int .i64 qx, .int .i64 qy] 30)) fs S0) := Lib.hid ((HFI.out.grows ((Grows.refl w4).dr)).grows (Grows.alloc _ _))
          have HR3 : Hid (RowAt 2 (w4.drew.alloc (.cells #[.int .i64 qx, .int .i64 qy] 30)) (.slice (some ⟨w4.heap.size, 0, none⟩) 1 1) 1 [.int .i64 qx, .int .i64 qy]) := Lib.hid (rowP w4.drew _ _ _ rfl rfl)
          obtain ⟨bo, co, eo, hco, hbo1, hbo2, xc, xf, -⟩ := own_last HO.out
          cases eo
          have xcA : (w4.alloc (.cells #[.int .i64 qx, .int .i64 qy] 30)).cell? ⟨g4, fs.length, none⟩ = some (.slice (some ⟨bc, 0, none⟩) (rj + 1) cu) := by rw [Below.cell (Grows.alloc w4 _) (p := ⟨g4, fs.length, none⟩) hbo2]; exact xc
          rw [← HFL.out] at hco xc xf xcA ⊢
          have hBB : B ≤ (w4.drew.alloc (.cells #[.int .i64 qx, .int .i64 qy] 30)).heap.size := by rw [World.size_alloc]; exact Nat.le_succ_of_le hB2
          have hBw : (w.alloc (.cells #[.int .i64 lx, .int .i64 ly, .int .i64 hx, .int .i64 hy] 32)).heap.size ≤ (w4.drew.alloc (.cells #[.int .i64 qx, .int .i64 qy] 30)).heap.size := by rw [World.size_alloc w4.drew]; exact Nat.le_succ_of_le G4.out.size
          have hWB : (w.alloc (.cells #[.int .i64 lx, .int .i64 ly, .int .i64 hx, .int .i64 hy] 32)).heap.size ≤ B := by rw [World.size_alloc]; exact hB1
          obtain ⟨-, ⟨q0, q1⟩, -⟩ := CFB.out _ G4.out
          have x0 : (f : Int) + 1 - 1 = (f : Int) := by omega
          have x1 : (0 : Int) ≤ (f : Int) := by omega
          have x2 : (f : Int) < (f : Int) + 1 := by omega
          have jx1 : (0 : Int) ≤ (j : Int) + 1 := by omega
          have jx2 : (j : Int) + 1 < (n : Int) := by omega
          clear hbo1 hbo2
          go_region_law ((refine step_append_row (by rfl) _ _ _ (by rfl) B 30 j0 _ 2 16 Try.underlying28 hj0 hy0 hy1 hy2 rfl (by decide) (.slice (some ⟨bc, 0, none⟩) (rj + 1) cu) (rj + 1) _ (by rfl) HX3.out 1 _ (.slice (some ⟨w4.heap.size, 0, none⟩) 1 1) (by rfl) HR3.out (by unfold maxLen; omega) (by omega) hBB ?_; intro v5 w5 hown5 hgr5; have O5 := Lib.hid hown5; have F5 := Lib.hid (HF3.out.beyond hgr5 (fun k hk => (own_lt HX3.out k hk).1)); have Q5 := Lib.hid (own_other HX3.out HO3.out (by decide) hgr5); have G5 : Hid (Grows (w.alloc (.cells #[.int .i64 lx, .int .i64 ly, .int .i64 hx, .int .i64 hy] 32)) w5) := Lib.hid (Below.grown (G4.out.dr.al _) hgr5 hBw (fun kk hkk => Nat.le_trans hWB (own_lt HX3.out kk hkk).1)); have S5 := Lib.hid hgr5.size; clear hown5 hgr5; obtain ⟨g1, c1, e1, -, y1, y3, y4, y5, y6⟩ := own_last Q5.out; cases e1; rw [← HFL.out] at y4 y5 y6; obtain ⟨b5, c5, rfl⟩ := own_succ O5.out; have Y6 := Lib.hid y6; clear y6))
          all_goals
            have HU := Lib.hid (Y6.out (.slice (some ⟨b5, 0, none⟩) (rj + 1 + 1) c5) rfl)
            have hgs := grown_set w5 g4 f (.slice (some ⟨b5, 0, none⟩) (rj + 1 + 1) c5)
            have F6 := Lib.hid (F5.out.other Q5.out (by decide) hgs)
            have O6 := Lib.hid (own_other Q5.out O5.out (by decide) hgs)
            have G6 := Lib.hid (G5.out.st (p := ⟨g4, f, none⟩) (by rw [World.size_alloc]; exact y1) (.slice (some ⟨b5, 0, none⟩) (rj + 1 + 1) c5))
            have S6 := Lib.hid hgs.size
            clear hgs y1 y3 y4 y5 x1 x2
            go_wp2
            refine ⟨⟨j + 1, _, true, rfl, rfl, by simp, Lib.hid (.inr ⟨hjn1, fun _ => ⟨by omega, by rw [Nat.add_sub_cancel]; exact HM.out⟩, (fun h => by cases h), ?_⟩), G6⟩, by simp only [intOf]; omega⟩
            rw [HNX.out]
            exact .inr ⟨rfl, fs, _, S0, r ++ [(qx, qy)], B, rfl, (by have h1 := HU.out; rw [List.length_append, List.length_singleton, ← HFL.out]; exact h1), F6.out, (by rw [List.length_append, HRJ.out, flat_append]; exact O6.out), (by simp), (by rw [List.length_append, HRJ.out, List.length_singleton]; have := HRI.out; rw [HRJ.out] at this; omega), hB1, Nat.le_trans hBB (Nat.le_trans S5.out S6.out)⟩
    · obtain ⟨S, hS, hPS⟩ : ∃ S, (partsI s n 0).map (prow l) = S ∧ PState (w.heap.size + 1) wr o goes S := by
        rcases HP.out with ⟨h1, h2, h3, h4⟩ | ⟨h1, h2, h3, h4⟩
        · refine ⟨[], ?_, by rw [h3]; exact h4⟩
          rw [h2, partsI_end s 0 (by omega)]
          rfl
        · refine ⟨_, ?_, h4⟩
          rw [show n = j + 1 by omega]
      have HR := Lib.hid hPS.rows
      have HSE := Lib.hid hS
      clear hS hPS HP
      have hs2 : ¬ ((j : Int) + 1 < (n : Int)) := by omega
      go_wp2
      go_ret
      exact ⟨_, rfl, by rw [HSE.out]; exact HR.out, ((Grows.refl w).al _).trans G.out⟩
end Go.Proofs.Ytlkihbehiojimaa
