/-
  Layer 20: slices that read as tiles; the tiles that the document shows, and the one that has a point.
-/
import Derived.Test.YtfhohgemfojjmaaW9
namespace Go.Proofs.Ytfhohgemfojjmaa
open Go.RowKit Go.Tab Go.WideShapes

theorem flatT_length (l : List Tl) : (flatT l).length = l.length * 3 := by
  induction l with
  | nil => rfl
  | cons t l ih => simp [flatT] at ih ⊢; omega
theorem flatT_append (l k : List Tl) : flatT (l ++ k) = flatT l ++ flatT k := by simp [flatT]
theorem flatT_get (l : List Tl) (i : Nat) (h : i < l.length) : (flatT l)[i * 3]? = some (.int .i64 (l.getD i (0, 0, 0)).1) ∧ (flatT l)[i * 3 + 1]? = some (.int .i64 (l.getD i (0, 0, 0)).2.1) ∧ (flatT l)[i * 3 + 2]? = some (.int .i64 (l.getD i (0, 0, 0)).2.2) := by
  induction l generalizing i with
  | nil => simp at h
  | cons t l ih =>
    cases i with
    | zero => simp [flatT]
    | succ i =>
      have h' := ih i (by simpa using h)
      have e : ∀ k, (flatT (t :: l))[(i + 1) * 3 + k]? = (flatT l)[i * 3 + k]? := fun k => by
        show ([Value.int .i64 t.1, .int .i64 t.2.1, .int .i64 t.2.2] ++ flatT l)[(i + 1) * 3 + k]? = _
        rw [List.getElem?_append_right (by simp; omega)]
        congr 1
        simp; omega
      exact ⟨(e 0).trans h'.1, (e 1).trans h'.2.1, (e 2).trans h'.2.2⟩

/-- A slice that reads as these tiles. -/
def TlsAt (w : World) (v : Value) (l : List Tl) : Prop :=
  l.length ≤ 100000 ∧ (((∃ a cap, v = .slice a 0 cap ∧ (a = none → cap = 0)) ∧ l = []) ∨ ∃ b off cap, v = .slice (some ⟨b, off, none⟩) l.length cap ∧ b < w.heap.size ∧ l.length ≤ cap ∧
    ∀ i, i < l.length → w.cell? ⟨b, off + i * 3, none⟩ = some (.int .i64 (l.getD i (0, 0, 0)).1) ∧ w.cell? ⟨b, off + i * 3 + 1, none⟩ = some (.int .i64 (l.getD i (0, 0, 0)).2.1) ∧ w.cell? ⟨b, off + i * 3 + 2, none⟩ = some (.int .i64 (l.getD i (0, 0, 0)).2.2))
theorem TlsAt.grows {w w' : World} {v : Value} {l : List Tl} (h : TlsAt w v l) (hg : Grows w w') : TlsAt w' v l := by
  obtain ⟨hl, h | ⟨b, off, cap, hv, hb, hcp, hc⟩⟩ := h
  · exact ⟨hl, .inl h⟩
  · refine ⟨hl, .inr ⟨b, off, cap, hv, Nat.lt_of_lt_of_le hb hg.size, hcp, fun i hi => ?_⟩⟩
    rw [Below.cell hg (p := ⟨b, off + i * 3, none⟩) hb, Below.cell hg (p := ⟨b, off + i * 3 + 1, none⟩) hb, Below.cell hg (p := ⟨b, off + i * 3 + 2, none⟩) hb]
    exact hc i hi
theorem TlsAt.at_ {w : World} {a : Option Addr} {n cap i : Nat} {l : List Tl} (h : TlsAt w (.slice a n cap) l) (hi : i < l.length) :
    ∃ b off, a = some ⟨b, off, none⟩ ∧ b < w.heap.size ∧ w.cell? ⟨b, off + i * 3, none⟩ = some (.int .i64 (l.getD i (0, 0, 0)).1) ∧ w.cell? ⟨b, off + i * 3 + 1, none⟩ = some (.int .i64 (l.getD i (0, 0, 0)).2.1) ∧ w.cell? ⟨b, off + i * 3 + 2, none⟩ = some (.int .i64 (l.getD i (0, 0, 0)).2.2) := by
  obtain ⟨_, ⟨_, rfl⟩ | ⟨b, off, cap', hv, hb, _, hc⟩⟩ := h
  · cases hi
  · cases hv; exact ⟨b, off, rfl, hb, hc i hi⟩
theorem TlsAt.at_cell {w : World} {b off n cap i : Nat} {l : List Tl} (h : TlsAt w (.slice (some ⟨b, off, none⟩) n cap) l) (hi : i < l.length) :
    w.cell? ⟨b, off + i * 3, none⟩ = some (.int .i64 (l.getD i (0, 0, 0)).1) ∧ w.cell? ⟨b, off + i * 3 + 1, none⟩ = some (.int .i64 (l.getD i (0, 0, 0)).2.1) ∧ w.cell? ⟨b, off + i * 3 + 2, none⟩ = some (.int .i64 (l.getD i (0, 0, 0)).2.2) := by
  obtain ⟨b', off', e, _, hc⟩ := h.at_ hi
  cases e
  exact hc
theorem TlsAt.shape {w : World} {v : Value} {l : List Tl} (h : TlsAt w v l) : ∃ a cap, v = .slice a l.length cap ∧ l.length ≤ cap ∧ (a = none → cap = 0) := by
  obtain ⟨_, ⟨⟨_, _, h, hz⟩, rfl⟩ | ⟨b, off, cap, hv, _, hc, _⟩⟩ := h
  · exact ⟨_, _, h, Nat.zero_le _, hz⟩
  · exact ⟨_, _, hv, hc, fun h => by cases h⟩
theorem own_tls {w : World} {base : Nat} {E : TypeId} {v : Value} {l : List Tl} {n : Nat} (h : w.ownsRow base E 3 v n (flatT l)) (hn : n = l.length) (hl : l.length ≤ 100000) : TlsAt w v l := by
  subst hn
  obtain ⟨_, ⟨h1, h2⟩ | ⟨g, cap, cur, hv, hg, hh, hc, hm, hs, ht⟩⟩ := h
  · have h0 : l.length = 0 := by have := flatT_length l; rw [h2] at this; simp at this; omega
    exact ⟨hl, .inl ⟨⟨none, 0, h1, fun _ => rfl⟩, List.length_eq_zero_iff.1 h0⟩⟩
  · refine ⟨hl, .inr ⟨g, 0, cap, hv, (Array.getElem?_eq_some_iff.1 hh).1, hc, fun i hi => ?_⟩⟩
    obtain ⟨f1, f2, f3⟩ := flatT_get l i hi
    rw [← ht, List.getElem?_take_of_lt (by omega)] at f1 f2 f3
    simp only [World.cell?, hh, Nat.zero_add]
    refine ⟨?_, ?_, ?_⟩
    · show (if false = true then none else cur[i * 3]?) = _
      simpa using f1
    · show (if false = true then none else cur[i * 3 + 1]?) = _
      simpa using f2
    · show (if false = true then none else cur[i * 3 + 2]?) = _
      simpa using f3
theorem row3' (w : World) (b : Nat) (x y z : Value) (T : TypeId) (hb : b = w.heap.size) (hx : x.oneCell' = true) (hy : y.oneCell' = true) (hz : z.oneCell' = true) : RowAt 3 (w.alloc (.cells #[x, y, z] T)) (.slice (some ⟨b, 0, none⟩) 1 1) 1 [x, y, z] := by
  subst hb; exact row3 w x y z T hx hy hz
theorem tilesL_le (z : Int) : (tilesL z).length ≤ 256 := by
  unfold tilesL
  rw [tilesM_length]
  exact Nat.mul_le_mul (wide_le z) (wide_le z)
theorem tilesL_mem {z : Int} {t : Tl} (h : t ∈ tilesL z) : t.1 = z ∧ tileB t.1 t.2.1 t.2.2 = true := by
  unfold tilesL tilesM at h
  obtain ⟨k, hk, rfl⟩ := List.mem_map.1 h
  have hk := List.mem_range.1 hk
  refine ⟨rfl, ?_⟩
  generalize hn : wideN z = n at hk
  have hn0 : 0 < n := by cases n <;> omega
  have h1 : k / n < n := Nat.div_lt_of_lt_mul hk
  have h2 : k % n < n := Nat.mod_lt _ hn0
  have e : tk z n k = (z, ((k / n : Nat) : Int), ((k % n : Nat) : Int)) := rfl
  rw [e]
  generalize k / n = q at h1
  generalize k % n = r at h2
  simp only [tileB, hn]
  simp
  omega
theorem take_filt {p : Tl → Bool} (l : List Tl) (k : Nat) (h : k < l.length) : (l.take (k + 1)).filter p = (l.take k).filter p ++ (if p (l.getD k (0, 0, 0)) = true then [l.getD k (0, 0, 0)] else []) := by
  rw [List.take_succ_eq_append_getElem h, List.filter_append]
  congr 1
  rw [List.getD_eq_getElem?_getD, List.getElem?_eq_getElem h]
  simp only [Option.getD_some, List.filter_cons, List.filter_nil]
theorem shownL_no {z buf : Int} {b : BoxI} (h : buf < 0 ∨ 2047 < buf) : shownL z buf b = [] := by
  unfold shownL
  split
  · rw [List.filter_eq_nil_iff]
    intro t ht
    have : winB t.1 t.2.1 t.2.2 buf = false := by
      unfold winB
      rcases h with h | h
      · have : ¬ 0 ≤ buf := by omega
        simp [this]
      · have : ¬ buf ≤ 2047 := by omega
        simp [this]
    simp [showT, this]
  · rfl

set_option maxHeartbeats 4000000 in
theorem rshown_yes (z buf : Int) (b : BoxI) (w : World) (h0 : 0 ≤ buf) (h1 : buf ≤ 2047) (hr : b.right = true) : Calls Try.prog 24 #[.int .i64 z, .int .i64 buf, bx b] w fun e W' => ∃ v, e = .returned v ∧ W'.ownsRow w.heap.size 35 3 v (shownL z buf b).length (flatT (shownL z buf b)) ∧ Grows w W' := by
  obtain ⟨i0, hi0, hz0, hz1, hz2⟩ := info_parts infoRT
  have HR := Lib.hid (rboxright_any b)
  have HA := Lib.hid (rall_any z)
  have HLE := tilesL_le z
  have HM := Lib.hid (fun t h => tilesL_mem (z := z) (t := t) h)
  have HS : Hid (shownL z buf b = (tilesL z).filter (showT buf b)) := Lib.hid (by unfold shownL; rw [if_pos hr])
  have HP : Hid (∀ x : Tl, showT buf b x = (winB x.1 x.2.1 x.2.2 buf && openB (winBox x.1 x.2.1 x.2.2 buf) b)) := Lib.hid fun _ => rfl
  have HW : Hid (∀ x : Tl, tileB x.1 x.2.1 x.2.2 = true → winB x.1 x.2.1 x.2.2 buf = true) := Lib.hid fun x h => by simp [winB, h, h0, h1]
  rw [hr] at HR
  generalize showT buf b = p at HP HS
  generalize shownL z buf b = SL at HS ⊢
  generalize tilesL z = L at HA HLE HM HS
  obtain ⟨lx, ly, hx, hy⟩ := b
  clear hr
  have BX : Hid (∀ w', Grows (w.alloc (.cells #[.int .i64 lx, .int .i64 ly, .int .i64 hx, .int .i64 hy] 32)) w' →
      (w'.cell? ⟨w.heap.size, 0, none⟩ = some (.int .i64 lx) ∧ w'.cell? ⟨w.heap.size, 1, none⟩ = some (.int .i64 ly) ∧ w'.cell? ⟨w.heap.size, 2, none⟩ = some (.int .i64 hx) ∧ w'.cell? ⟨w.heap.size, 3, none⟩ = some (.int .i64 hy)) ∧ Grows w w') :=
    Lib.hid fun w' hg => ⟨cells4 (hg.block (heap_new _ _ _ rfl)), ((Grows.refl w).al _).trans hg⟩
  go_enter Try.func24, Try.ntmps24
  go_wp2_with fail
  refine (HR.out _).mono ?_
  rintro _ w1 ⟨rfl, hg⟩
  have G1 := Lib.hid hg
  clear hg
  go_wp2_with fail
  refine (HA.out _).mono ?_
  rintro _ w2 ⟨v, rfl, hown, hg⟩
  have HT := Lib.hid (own_tls hown rfl (by omega))
  have G2 := Lib.hid (G1.out.trans hg)
  clear hg hown
  obtain ⟨a, c, rfl, hnc, _⟩ := HT.out.shape
  obtain ⟨n, hn⟩ : ∃ n, n = L.length := ⟨_, rfl⟩
  rw [← hn] at HLE hnc HT ⊢
  have HN := Lib.hid hn
  clear hn
  go_wp2
  go_loopw [7, 9] (fun u' i wr => ∃ (k : Nat) (u : Value), u = u' ∧ i = .int .i64 (k : Int) ∧ k ≤ n ∧ wr.ownsRow w2.heap.size 35 3 u ((L.take k).filter p).length (flatT ((L.take k).filter p)) ∧ Grows w2 wr) (fun _ i _ => n - (intOf i).toNat)
  case atStart => exact ⟨0, _, rfl, rfl, Nat.zero_le _, World.ownsRow_nil _ _ _ _, Grows.refl _⟩
  case round =>
    obtain ⟨k, u, rfl, rfl, hk, hown, hg⟩ := hrel
    have HOW := Lib.hid hown
    have G := Lib.hid hg
    clear hown hg
    by_cases hlt : k < n
    · obtain ⟨ba, oa, rfl, hba, -, -, -⟩ := HT.out.at_ (i := k) (by rw [← HN.out]; exact hlt)
      have CK := Lib.hid (fun w' (hg : Grows w2 w') => (HT.out.grows hg).at_cell (i := k) (by rw [← HN.out]; exact hlt))
      have HF := Lib.hid (take_filt (p := p) L k (by rw [← HN.out]; exact hlt))
      have HMk := Lib.hid (HW.out _ (HM.out (L.getD k (0, 0, 0)) (by have hh := HN.out; rw [List.getD_eq_getElem?_getD, List.getElem?_eq_getElem (by omega)]; exact List.getElem_mem _)).2)
      have HPk := Lib.hid (HP.out (L.getD k (0, 0, 0)))
      have hfl : ((L.take k).filter p).length ≤ 256 := by have := List.length_filter_le p (L.take k); have h2 : (L.take k).length ≤ k := List.length_take_le _ _; omega
      generalize L.getD k (0, 0, 0) = t at CK HF HMk HPk
      obtain ⟨tz, tx, ty⟩ := t
      obtain ⟨c1, c2, c3⟩ := CK.out wr G.out
      simp only at c1 c2 c3 HF HMk HPk
      have HC := Lib.hid (rwindow_any tz tx ty buf)
      rw [HMk.out] at HC HPk
      generalize winBox tz tx ty buf = ub at HC HPk
      generalize p (tz, tx, ty) = pt' at HF HPk
      generalize (L.take k).filter p = Lk at HF HOW hfl
      obtain ⟨ulx, uly, uhx, uhy⟩ := ub
      go_wp2_with fail
      refine (HC.out _).mono ?_
      rintro _ w3 ⟨rfl, hg⟩
      have G3 := Lib.hid (G.out.trans hg)
      have HO3 := Lib.hid (ownsRow_later HOW.out hg)
      obtain ⟨⟨x0, x1, x2, x3⟩, _⟩ := BX.out _ ((G2.out.trans G3.out).al (.cells #[.int .i64 ulx, .int .i64 uly, .int .i64 uhx, .int .i64 uhy] 32))
      obtain ⟨e1, e2, e3⟩ := CK.out _ (G3.out.al (.cells #[.int .i64 ulx, .int .i64 uly, .int .i64 uhx, .int .i64 uhy] 32))

      clear hg c1 c2 c3 HOW
      have DD : (ulx < hx ∧ lx < uhx ∧ uly < hy ∧ ly < uhy) ∨ ¬ (ulx < hx ∧ lx < uhx ∧ uly < hy ∧ ly < uhy) := Classical.em _
      rcases DD with ⟨d1, d2, d3, d4⟩ | dd
      · have hpx : pt' = true := by rw [HPk.out]; simp [openB, d1, d2, d3, d4]
        subst hpx
        clear HPk
        go_wp2_with (at_builtin; go_loud (refine append_row rfl _ _ 45 rfl w2.heap.size 35 i0 _ 3 24 Try.underlying45 hi0 hz0 hz1 hz2 rfl (by decide) _ Lk.length _ rfl (ownsRow_later HO3.out (((Grows.refl _).al _).al _)) 1 [.int .i64 tz, .int .i64 tx, .int .i64 ty] _ rfl (row3' _ _ _ _ _ _ (by simp only [World.size_alloc]) rfl rfl rfl) (by unfold maxLen; omega) (by omega) (by have := G3.out.size; simp only [World.size_alloc]; omega) ?_; intro v5 w5 hown5 hgr5; have O5 := Lib.hid hown5; have G5 := Lib.hid (hgr5 w2 ((G3.out.al _).al _) (Nat.le_refl _)); clear hown5 hgr5))
        exact ⟨⟨k + 1, _, rfl, by simp, by omega, by rw [HF.out, List.length_append, flatT_append]; simpa [flatT] using O5.out, G5.out⟩, by simp only [intOf]; omega⟩
      · have hpx : pt' = false := by rw [HPk.out, ← Bool.not_eq_true]; simp [openB]; omega
        subst hpx
        have Hdd := Lib.hid dd
        clear HPk dd
        go_wp2_with (at_builtin; exfalso; have hq := Hdd.out; omega)
        all_goals exact ⟨⟨k + 1, _, rfl, by simp, by omega, by rw [HF.out]; simpa using ownsRow_later HO3.out ((Grows.refl _).al _), G3.out.al _⟩, by simp only [intOf]; omega⟩
    · obtain rfl : k = n := by omega
      go_wp2
      go_ret
      exact ⟨_, rfl, by have hh := HOW.out; rw [List.take_of_length_le (by rw [← HN.out]; exact Nat.le_refl _)] at hh; rw [HS.out]; exact own_base hh (BX.out _ G2.out).2.size, (BX.out _ (G2.out.trans G.out)).2⟩
end Go.Proofs.Ytfhohgemfojjmaa
