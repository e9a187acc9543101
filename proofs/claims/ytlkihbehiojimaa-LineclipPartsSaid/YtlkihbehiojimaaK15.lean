/-
  Layer 22: points as the document's; the same points.
-/
import Derived.Test.YtlkihbehiojimaaK7
import Derived.BigQuiet
namespace Go.Proofs.Ytlkihbehiojimaa
open Go.RowKit Go.Tab Go.WideShapes

theorem infoRP : (Try.prog.info? 30).map (fun i => (i.zero, i.size, i.bytes)) = some (some (.agg #[.int .i64 0, .int .i64 0]), 2, 16) := by kernel_rfl
theorem rowP (w : World) (x y : Value) (T : TypeId) (hx : x.oneCell' = true) (hy : y.oneCell' = true) : RowAt 2 (w.alloc (.cells #[x, y] T)) (.slice (some ⟨w.heap.size, 0, none⟩) 1 1) 1 [x, y] :=
  ⟨rfl, by simp [hx, hy], .inr ⟨w.heap.size, 0, 1, rfl, by simp, fun j z hj => by
    match j with
    | 0 => cases hj; unfold World.cell?; rw [heap_new w _ _ rfl]; rfl
    | 1 => cases hj; unfold World.cell?; rw [heap_new w _ _ rfl]; rfl
    | j + 2 => simp at hj⟩⟩
theorem flat_one (l : List (Int × Int)) (k : Nat) (h : k < l.length) : flat (l.take (k + 1)) = flat (l.take k) ++ [.int .i64 (l.getD k (0, 0)).1, .int .i64 (l.getD k (0, 0)).2] := by
  rw [List.take_succ_eq_append_getElem h, flat_append]
  simp [flat, h]
theorem ownsRow_later {w w' : World} {base : Nat} {T : TypeId} {s : Nat} {v : Value} {n : Nat} {xs : List Value} (h : w.ownsRow base T s v n xs) (hg : Grows w w') : w'.ownsRow base T s v n xs := by
  obtain ⟨h0, h1 | ⟨g, cap, cur, hv, hb, hh, rest⟩⟩ := h
  · exact ⟨h0, .inl h1⟩
  · exact ⟨h0, .inr ⟨g, cap, cur, hv, hb, hg.block hh, rest⟩⟩

set_option maxHeartbeats 2000000 in
theorem ofs_any (v : Value) (l : List (Int × Int)) (w : World) (hu : PtsAt w v l) (hlen : l.length ≤ 1000) :
    Calls Try.prog 8 #[v] w (fun e w' => ∃ u, e = .returned u ∧ w'.ownsRow w.heap.size 30 2 u l.length (flat l) ∧ Grows w w') := by
  obtain ⟨i0, hi0, hz0, hz1, hz2⟩ := info_parts infoRP
  obtain ⟨a, c, rfl, hnc, _⟩ := hu.shape
  have HU := Lib.hid hu
  obtain ⟨n, hln⟩ : ∃ n, n = l.length := ⟨_, rfl⟩
  rw [← hln] at hlen hnc HU ⊢
  have HN := Lib.hid hln
  clear hu hln
  go_enter Try.func8, Try.ntmps8
  go_wp2
  go_loopw [3, 4] (fun u' i wr => ∃ (k : Nat) (u : Value), u = u' ∧ i = .int .i64 (k : Int) ∧ k ≤ n ∧ wr.ownsRow w.heap.size 30 2 u k (flat (l.take k)) ∧ Grows w wr) (fun _ i _ => n + 1 - (intOf i).toNat)
  case atStart => exact ⟨0, _, rfl, rfl, Nat.zero_le _, World.ownsRow_nil _ _ _ _, Grows.refl _⟩
  case round =>
    obtain ⟨k, u, rfl, rfl, hk, hown, hg⟩ := hrel
    have HOW := Lib.hid hown
    have G := Lib.hid hg
    clear hown hg
    by_cases hkn : k < n
    · obtain ⟨ba, oa, rfl, hba, _, _⟩ := HU.out.at_ (i := k) (by rw [← HN.out]; exact hkn)
      obtain ⟨c1, c2⟩ := (HU.out.grows G.out).at_cell (i := k) (by rw [← HN.out]; exact hkn)
      have HF := Lib.hid (flat_one l k (by rw [← HN.out]; exact hkn))
      generalize l.getD k (0, 0) = p at c1 c2 HF
      obtain ⟨px, py⟩ := p
      simp only at c1 c2 HF
      have HSZ := Lib.hid G.out.size
      go_wp2_with fail
      refine (of_any px py _).mono ?_
      rintro _ w1 ⟨rfl, hg⟩
      have G1 := Lib.hid (G.out.trans hg)
      have HO1 := Lib.hid (ownsRow_later HOW.out hg)
      clear hg c1 c2 HOW
      go_wp2_with (at_builtin; go_loud (refine append_row rfl _ _ 28 rfl w.heap.size 30 i0 _ 2 16 Try.underlying28 hi0 hz0 hz1 hz2 rfl (by decide) _ k _ rfl (ownsRow_later HO1.out ((Grows.refl _).al _)) 1 [.int .i64 px, .int .i64 py] _ rfl (rowP _ _ _ _ rfl rfl) (by unfold maxLen; omega) (by omega) (by have := G1.out.size; rw [World.size_alloc]; omega) ?_; intro v5 w5 hown5 hgr5; have O5 := Lib.hid hown5; have G5 := Lib.hid (hgr5 w (G1.out.al _) (Nat.le_refl _)); clear hown5 hgr5))
      exact ⟨⟨k + 1, _, rfl, by simp, by omega, by rw [HF.out]; exact O5.out, G5.out⟩, by simp only [intOf]; omega⟩
    · have hkn' : n = k := by omega
      subst hkn'
      have HT : Hid (l.take n = l) := Lib.hid (List.take_of_length_le (by rw [← HN.out]; exact Nat.le_refl _))
      go_wp2
      go_ret
      exact ⟨_, rfl, by have := HOW.out; rwa [HT.out] at this, G.out⟩

set_option maxHeartbeats 2000000 in
/-- The same points: they are the same. -/
theorem rsame_true (u v : Value) (l : List (Int × Int)) (w : World) (hu : PtsAt w u l) (hv : PtsAt w v l) (hlen : l.length ≤ 100000) :
    Calls Try.prog 38 #[u, v] w (Ret (.bool true) w) := by
  obtain ⟨a, c, rfl, hnc, _⟩ := hu.shape
  obtain ⟨a2, c2, rfl, hnc2, _⟩ := hv.shape
  have HU := Lib.hid hu
  have HV := Lib.hid hv
  obtain ⟨n, hln⟩ : ∃ n, n = l.length := ⟨_, rfl⟩
  rw [← hln] at hlen hnc hnc2 HU HV ⊢
  have HN := Lib.hid hln
  clear hu hv hln
  go_enter Try.func38, Try.ntmps38
  go_wp2
  go_loopw [5] (fun i wr => ∃ k : Nat, i = .int .i64 (k : Int) ∧ k ≤ n ∧ Grows w wr) (fun i _ => n + 1 - (intOf i).toNat)
  case atStart => exact ⟨0, rfl, Nat.zero_le _, Grows.refl _⟩
  case round =>
    obtain ⟨k, rfl, hk, hg⟩ := hrel
    have G := Lib.hid hg
    clear hg
    by_cases hkn : k < n
    · obtain ⟨ba, oa, rfl, hba, _, _⟩ := HU.out.at_ (i := k) (by rw [← HN.out]; exact hkn)
      obtain ⟨bb, ob, rfl, hbb, _, _⟩ := HV.out.at_ (i := k) (by rw [← HN.out]; exact hkn)
      obtain ⟨c1, c2'⟩ := (HU.out.grows G.out).at_cell (i := k) (by rw [← HN.out]; exact hkn)
      obtain ⟨c3, c4⟩ := (HV.out.grows G.out).at_cell (i := k) (by rw [← HN.out]; exact hkn)
      generalize l.getD k (0, 0) = p at c1 c2' c3 c4
      obtain ⟨px, py⟩ := p
      simp only at c1 c2' c3 c4
      go_wp2_with fail
      go_quiet (fail)
      rename_i nq
      have gd : Grows wr (wr.drewN nq) := ⟨rfl, rfl, rfl, Nat.le_refl _, fun _ _ => rfl⟩
      generalize wr.drewN nq = wC at gd ⊢
      have G3 := Lib.hid (G.out.trans gd)
      clear gd c1 c2' c3 c4
      go_wp2
      exact ⟨⟨k + 1, by simp, by omega, G3.out⟩, by simp only [intOf]; omega⟩
    · go_wp2
      go_ret
      exact ⟨rfl, G.out⟩

theorem same_true (u v : Value) (l : List (Int × Int)) (w : World) (hu : PtsAt w u l) (hv : PtsAt w v l) (hlen : l.length ≤ 1000) :
    Calls Try.prog 30 #[u, v] w (Ret (.bool true) w) := by
  have HO := Lib.hid (ofs_any u l w hu hlen)
  have HV := Lib.hid hv
  have HL := Lib.hid hlen
  clear hu hv hlen
  go_enter Try.func30, Try.ntmps30
  go_wp2_with fail
  refine HO.out.mono ?_
  rintro _ w1 ⟨x, rfl, hown, hg⟩
  have HX := Lib.hid (own_pts hown rfl (by have := HL.out; omega))
  have G := Lib.hid hg
  clear hown hg
  go_wp2_with fail
  refine (rsame_true _ _ l _ HX.out (HV.out.grows G.out) (by have := HL.out; omega)).mono ?_
  rintro _ w2 ⟨rfl, hg⟩
  have G2 := Lib.hid (G.out.trans hg)
  clear hg
  go_wp2
  go_ret
  exact ⟨rfl, G2.out⟩
end Go.Proofs.Ytlkihbehiojimaa
