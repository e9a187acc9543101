/-
  Layer 20: points moved; by the numbers of a tile, and back.
-/
import Derived.Test.YtfhohgemfojjmaaW13
namespace Go.Proofs.Ytfhohgemfojjmaa
open Go.RowKit Go.Tab Go.WideShapes

theorem infoPt : (Try.prog.info? 25).map (fun i => (i.zero, i.size, i.bytes)) = some (some (.agg #[.int .i64 0, .int .i64 0]), 2, 16) := by kernel_rfl
/-- A point with numbers added, as whole numbers of 64 bits are. -/
def movP (dx dy : Int) (p : Int × Int) : Int × Int := (wrap64 (p.1 + dx), wrap64 (p.2 + dy))
theorem row2 (w : World) (x y : Value) (T : TypeId) (hx : x.oneCell' = true) (hy : y.oneCell' = true) : RowAt 2 (w.alloc (.cells #[x, y] T)) (.slice (some ⟨w.heap.size, 0, none⟩) 1 1) 1 [x, y] :=
  ⟨rfl, by simp [hx, hy], .inr ⟨w.heap.size, 0, 1, rfl, by simp, fun j z hj => by
    match j with
    | 0 => cases hj; unfold World.cell?; rw [heap_new w _ _ rfl]; rfl
    | 1 => cases hj; unfold World.cell?; rw [heap_new w _ _ rfl]; rfl
    | j + 2 => simp at hj⟩⟩
theorem row2' (w : World) (b : Nat) (x y : Value) (T : TypeId) (hb : b = w.heap.size) (hx : x.oneCell' = true) (hy : y.oneCell' = true) : RowAt 2 (w.alloc (.cells #[x, y] T)) (.slice (some ⟨b, 0, none⟩) 1 1) 1 [x, y] := by
  subst hb; exact row2 w x y T hx hy
theorem map_take_one {f : Int × Int → Int × Int} (l : List (Int × Int)) (k : Nat) (h : k < l.length) : flat ((l.take (k + 1)).map f) = flat ((l.take k).map f) ++ [.int .i64 (f (l.getD k (0, 0))).1, .int .i64 (f (l.getD k (0, 0))).2] := by
  rw [List.take_succ_eq_append_getElem h, List.map_append, flat_append, List.getD_eq_getElem?_getD, List.getElem?_eq_getElem h]
  simp [flat]

set_option maxHeartbeats 4000000 in
theorem moved_any (dx dy : Int) (v : Value) (l : List (Int × Int)) (w : World) (hu : PtsAt w v l) (hlen : l.length ≤ 1000) :
    Calls Try.prog 40 #[pt dx dy, v] w (fun e w' => ∃ u, e = .returned u ∧ w'.ownsRow w.heap.size 25 2 u l.length (flat (l.map (movP dx dy))) ∧ Grows w w') := by
  obtain ⟨i0, hi0, hz0, hz1, hz2⟩ := info_parts infoPt
  obtain ⟨a, c, rfl, hnc, _⟩ := hu.shape
  have HU := Lib.hid (hu.grows ((Grows.refl w).al (.cells #[.int .i64 dx, .int .i64 dy] 25)))
  obtain ⟨n, hln⟩ : ∃ n, n = l.length := ⟨_, rfl⟩
  rw [← hln] at hlen hnc HU ⊢
  have HN := Lib.hid hln
  clear hu hln
  have BX : Hid (∀ w', Grows (w.alloc (.cells #[.int .i64 dx, .int .i64 dy] 25)) w' → (w'.cell? ⟨w.heap.size, 0, none⟩ = some (.int .i64 dx) ∧ w'.cell? ⟨w.heap.size, 1, none⟩ = some (.int .i64 dy)) ∧ Grows w w') := Lib.hid fun w' hg => by
    obtain ⟨h1, h2, _, _⟩ := cells2 (hg.block (heap_new w _ _ rfl))
    exact ⟨⟨h1, h2⟩, ((Grows.refl w).al _).trans hg⟩
  go_enter Try.func40, Try.ntmps40
  go_wp2
  go_loopw [5, 10] (fun u' i wr => ∃ (k : Nat) (u : Value), u = u' ∧ i = .int .i64 (k : Int) ∧ k ≤ n ∧ wr.ownsRow (w.heap.size + 1) 25 2 u k (flat ((l.take k).map (movP dx dy))) ∧ Grows (w.alloc (.cells #[.int .i64 dx, .int .i64 dy] 25)) wr) (fun _ i _ => n + 1 - (intOf i).toNat)
  case atStart => exact ⟨0, _, rfl, rfl, Nat.zero_le _, World.ownsRow_nil _ _ _ _, Grows.refl _⟩
  case round =>
    obtain ⟨k, u, rfl, rfl, hk, hown, hg⟩ := hrel
    have HOW := Lib.hid hown
    have G := Lib.hid hg
    clear hown hg
    by_cases hkn : k < n
    · obtain ⟨ba, oa, rfl, hba, -, -⟩ := HU.out.at_ (i := k) (by rw [← HN.out]; exact hkn)
      obtain ⟨c1, c2⟩ := (HU.out.grows G.out).at_cell (i := k) (by rw [← HN.out]; exact hkn)
      have HF := Lib.hid (map_take_one (f := movP dx dy) l k (by rw [← HN.out]; exact hkn))
      generalize l.getD k (0, 0) = p at c1 c2 HF
      obtain ⟨px, py⟩ := p
      simp only [movP] at c1 c2 HF
      have HSZ := Lib.hid G.out.size
      obtain ⟨⟨d0, d1⟩, -⟩ := BX.out _ (G.out.al (.cells #[.int .i64 px, .int .i64 py] 25))
      go_wp2_with (at_builtin; go_loud (refine append_row rfl _ _ 59 rfl (w.heap.size + 1) 25 i0 _ 2 16 Try.underlying59 hi0 hz0 hz1 hz2 rfl (by decide) _ k _ rfl (ownsRow_later HOW.out (((Grows.refl _).al _).al _)) 1 [.int .i64 (wrap64 (px + dx)), .int .i64 (wrap64 (py + dy))] _ rfl (row2' _ _ _ _ _ (by simp only [World.size_alloc]) rfl rfl) (by unfold maxLen; omega) (by omega) (by have := HSZ.out; simp only [World.size_alloc] at this ⊢; omega) ?_; intro v5 w5 hown5 hgr5; have O5 := Lib.hid hown5; have G5 := Lib.hid (hgr5 (w.alloc (.cells #[.int .i64 dx, .int .i64 dy] 25)) ((G.out.al _).al _) (by simp only [World.size_alloc]; omega)); clear hown5 hgr5))
      exact ⟨⟨k + 1, _, rfl, by simp, by omega, by rw [HF.out]; exact O5.out, G5.out⟩, by simp only [intOf]; omega⟩
    · have hkn' : n = k := by omega
      subst hkn'
      have HT : Hid (l.take n = l) := Lib.hid (List.take_of_length_le (by rw [← HN.out]; exact Nat.le_refl _))
      go_wp2
      go_ret
      exact ⟨_, rfl, by have := HOW.out; rw [HT.out] at this; exact own_base this (Nat.le_succ _), (BX.out _ G.out).2⟩

def localL (z x y : Int) (l : List (Int × Int)) : List (Int × Int) := if tileB z x y = true then l.map (movP (-(4096 * x)) (-(4096 * y))) else []
def worldL (z x y : Int) (l : List (Int × Int)) : List (Int × Int) := if tileB z x y = true then l.map (movP (4096 * x) (4096 * y)) else []

theorem moved_pts (dx dy : Int) (v : Value) (l : List (Int × Int)) (w : World) (hu : PtsAt w v l) (hlen : l.length ≤ 1000) :
    Calls Try.prog 40 #[pt dx dy, v] w (fun e w' => ∃ u, e = .returned u ∧ PtsAt w' u (l.map (movP dx dy)) ∧ Grows w w') :=
  (moved_any dx dy v l w hu hlen).mono fun e w' ⟨u, he, ho, hg⟩ => ⟨u, he, own_pts ho (by rw [List.length_map]) (by rw [List.length_map]; omega), hg⟩

set_option maxHeartbeats 2000000 in
theorem wlocal_any (z x y : Int) (v : Value) (l : List (Int × Int)) (w : World) (hu : PtsAt w v l) (hlen : l.length ≤ 1000) :
    Calls Try.prog 27 #[tl z x y, v] w (fun e w' => ∃ u, e = .returned u ∧ PtsAt w' u (localL z x y l) ∧ Grows w w') := by
  have HR := Lib.hid (wright_any z x y)
  have HU := Lib.hid hu
  obtain ⟨a, c, rfl, hnc, _⟩ := hu.shape
  clear hu
  have BX : Hid (∀ w', Grows (w.alloc (.cells #[.int .i64 z, .int .i64 x, .int .i64 y] 23)) w' → (w'.cell? ⟨w.heap.size, 0, none⟩ = some (.int .i64 z) ∧ w'.cell? ⟨w.heap.size, 1, none⟩ = some (.int .i64 x) ∧ w'.cell? ⟨w.heap.size, 2, none⟩ = some (.int .i64 y)) ∧ Grows w w') := Lib.hid fun w' hg =>
    ⟨cells3 (hg.block (heap_new w _ _ rfl)), ((Grows.refl w).al _).trans hg⟩
  cases ht : tileB z x y with
  | false =>
    rw [show localL z x y l = [] by unfold localL; rw [ht]; rfl]
    rw [ht] at HR
    clear ht
    go_enter Try.func27, Try.ntmps27
    go_wp2_with fail
    refine (HR.out _).mono ?_
    rintro _ w1 ⟨rfl, hg⟩
    have G1 := Lib.hid hg
    clear hg
    go_wp2
    go_ret
    exact ⟨_, rfl, ⟨Nat.zero_le _, .inl ⟨⟨_, _, rfl, fun _ => rfl⟩, rfl⟩⟩, (BX.out _ G1.out).2⟩
  | true =>
    obtain ⟨x0, x1, y0, y1⟩ := tileB_bd ht
    have HC := Lib.hid (fun w => corner_any z x y w x0 x1 y0 y1)
    have HM := Lib.hid (fun w' (hg : Grows w w') => moved_pts (-(4096 * x)) (-(4096 * y)) _ l w' (HU.out.grows hg) hlen)
    rw [show localL z x y l = l.map (movP (-(4096 * x)) (-(4096 * y))) by unfold localL; rw [ht]; rfl]
    rw [ht] at HR
    generalize l.map (movP (-(4096 * x)) (-(4096 * y))) = M at HM ⊢
    generalize l.length = n at hnc HM ⊢
    clear ht hlen
    go_enter Try.func27, Try.ntmps27
    go_wp2_with fail
    refine (HR.out _).mono ?_
    rintro _ w1 ⟨rfl, hg⟩
    have G1 := Lib.hid hg
    obtain ⟨⟨b0, b1, b2⟩, -⟩ := BX.out _ G1.out
    clear hg
    go_wp2_with fail
    refine (HC.out _).mono ?_
    rintro _ w2 ⟨rfl, hg⟩
    have G2 := Lib.hid (G1.out.trans hg)
    clear hg b0 b1 b2
    go_wp2_with fail
    refine (HM.out _ ((BX.out _ G2.out).2.al _)).mono ?_
    rintro _ w3 ⟨u, rfl, hown, hg⟩
    have G3 := Lib.hid ((BX.out _ G2.out).2.trans (((Grows.refl _).al _).trans hg))
    have HO := Lib.hid hown
    clear hg hown
    go_wp2
    go_ret
    exact ⟨_, rfl, HO.out, G3.out⟩
set_option maxHeartbeats 2000000 in
theorem wworld_any (z x y : Int) (v : Value) (l : List (Int × Int)) (w : World) (hu : PtsAt w v l) (hlen : l.length ≤ 1000) :
    Calls Try.prog 28 #[tl z x y, v] w (fun e w' => ∃ u, e = .returned u ∧ PtsAt w' u (worldL z x y l) ∧ Grows w w') := by
  have HR := Lib.hid (wright_any z x y)
  have HU := Lib.hid hu
  obtain ⟨a, c, rfl, hnc, _⟩ := hu.shape
  clear hu
  have BX : Hid (∀ w', Grows (w.alloc (.cells #[.int .i64 z, .int .i64 x, .int .i64 y] 23)) w' → (w'.cell? ⟨w.heap.size, 0, none⟩ = some (.int .i64 z) ∧ w'.cell? ⟨w.heap.size, 1, none⟩ = some (.int .i64 x) ∧ w'.cell? ⟨w.heap.size, 2, none⟩ = some (.int .i64 y)) ∧ Grows w w') := Lib.hid fun w' hg =>
    ⟨cells3 (hg.block (heap_new w _ _ rfl)), ((Grows.refl w).al _).trans hg⟩
  cases ht : tileB z x y with
  | false =>
    rw [show worldL z x y l = [] by unfold worldL; rw [ht]; rfl]
    rw [ht] at HR
    clear ht
    go_enter Try.func28, Try.ntmps28
    go_wp2_with fail
    refine (HR.out _).mono ?_
    rintro _ w1 ⟨rfl, hg⟩
    have G1 := Lib.hid hg
    clear hg
    go_wp2
    go_ret
    exact ⟨_, rfl, ⟨Nat.zero_le _, .inl ⟨⟨_, _, rfl, fun _ => rfl⟩, rfl⟩⟩, (BX.out _ G1.out).2⟩
  | true =>
    obtain ⟨x0, x1, y0, y1⟩ := tileB_bd ht
    have HC := Lib.hid (fun w => corner_any z x y w x0 x1 y0 y1)
    have HM := Lib.hid (fun w' (hg : Grows w w') => moved_pts (4096 * x) (4096 * y) _ l w' (HU.out.grows hg) hlen)
    rw [show worldL z x y l = l.map (movP (4096 * x) (4096 * y)) by unfold worldL; rw [ht]; rfl]
    rw [ht] at HR
    generalize l.map (movP (4096 * x) (4096 * y)) = M at HM ⊢
    generalize l.length = n at hnc HM ⊢
    clear ht hlen
    go_enter Try.func28, Try.ntmps28
    go_wp2_with fail
    refine (HR.out _).mono ?_
    rintro _ w1 ⟨rfl, hg⟩
    have G1 := Lib.hid hg
    obtain ⟨⟨b0, b1, b2⟩, -⟩ := BX.out _ G1.out
    clear hg
    go_wp2_with fail
    refine (HC.out _).mono ?_
    rintro _ w2 ⟨rfl, hg⟩
    have G2 := Lib.hid (G1.out.trans hg)
    clear hg b0 b1 b2
    go_wp2_with fail
    refine (HM.out _ (BX.out _ G2.out).2).mono ?_
    rintro _ w3 ⟨u, rfl, hown, hg⟩
    have G3 := Lib.hid ((BX.out _ G2.out).2.trans hg)
    have HO := Lib.hid hown
    clear hg hown
    go_wp2
    go_ret
    exact ⟨_, rfl, HO.out, G3.out⟩
end Go.Proofs.Ytfhohgemfojjmaa
