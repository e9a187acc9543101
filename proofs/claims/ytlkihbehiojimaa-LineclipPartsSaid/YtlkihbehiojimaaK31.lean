/-
  Layer 22: ref22.inside: has an edge a point strictly within? the walk.
-/
import Derived.Test.YtlkihbehiojimaaK30
import Derived.Test.YtlkihbehiojimaaK26
namespace Go.Proofs.Ytlkihbehiojimaa
open Go.RowKit Go.Tab Go.TabR

set_option maxRecDepth 100000 in
set_option maxHeartbeats 8000000 in
theorem inside_any (px py qx qy : Int) (b : BoxI) (w : World) (hne : ¬ (px = qx ∧ py = qy)) (hp : mayB px py = true) (hq : mayB qx qy = true) (hb : b.right = true) :
    Calls Try.prog 35 #[pt px py, pt qx qy, bx b] w (Ret (.bool (insideB px py qx qy b)) w) := by
  obtain ⟨lx, ly, hx, hy⟩ := b
  have HB := Lib.hid (BoxI.right_iff.1 hb)
  obtain ⟨i0, hi0, hz0, hz1, hz2⟩ := info_parts infoInt
  obtain ⟨p1, p2, p3, p4⟩ : -16777216 ≤ px ∧ px ≤ 16777216 ∧ -16777216 ≤ py ∧ py ≤ 16777216 := by simpa [mayB] using hp
  obtain ⟨q1, q2, q3, q4⟩ : -16777216 ≤ qx ∧ qx ≤ 16777216 ∧ -16777216 ≤ qy ∧ qy ≤ 16777216 := by simpa [mayB] using hq
  obtain ⟨l1, l2, l3, l4⟩ : -16777216 ≤ lx ∧ lx ≤ 16777216 ∧ -16777216 ≤ ly ∧ ly ≤ 16777216 := by simpa [mayB] using HB.out.1
  obtain ⟨h1, h2, h3, h4⟩ : -16777216 ≤ hx ∧ hx ≤ 16777216 ∧ -16777216 ≤ hy ∧ hy ≤ 16777216 := by simpa [mayB] using HB.out.2.1
  clear hp hq hb
  have BD := Lib.hid (fun u => places_bd (px := px) (py := py) (qx := qx) (qy := qy) (b := ⟨lx, ly, hx, hy⟩) (u := u) ⟨p1, p2⟩ ⟨p3, p4⟩ ⟨q1, q2⟩ ⟨q3, q4⟩ ⟨l1, l2⟩ ⟨l3, l4⟩ ⟨h1, h2⟩ ⟨h3, h4⟩)
  have IP := Lib.hid (show in24 px ∧ in24 py ∧ in24 qx ∧ in24 qy ∧ in24 lx ∧ in24 ly ∧ in24 hx ∧ in24 hy from ⟨⟨p1, p2⟩, ⟨p3, p4⟩, ⟨q1, q2⟩, ⟨q3, q4⟩, ⟨l1, l2⟩, ⟨l3, l4⟩, ⟨h1, h2⟩, ⟨h3, h4⟩⟩)
  have HNE := Lib.hid hne
  clear p1 p2 p3 p4 q1 q2 q3 q4 l1 l2 l3 l4 h1 h2 h3 h4 hne
  go_enter Try.func35, Try.ntmps35
  go_wp2
  go_loopw [7, 8, 11] (fun vn' vd' i wr => ∃ (k : Nat) (vn vd : Value), vn = vn' ∧ vd = vd' ∧ i = .int .i64 (k : Int) ∧ k ≤ 2 ∧ Hid (NB w.heap.size w wr px py qx qy lx ly hx hy) ∧ Hid (ND w.heap.size wr vn vd (plK px py qx qy ⟨lx, ly, hx, hy⟩ k))) (fun _ _ i _ => 2 - (intOf i).toNat)
  case atStart => exact ⟨0, _, _, rfl, rfl, rfl, by omega, Lib.hid (start_NB w px py qx qy lx ly hx hy), Lib.hid (start_ND w px py qx qy lx ly hx hy _)⟩
  case round =>
    obtain ⟨k, vn, vd, rfl, rfl, rfl, hk, NBW, NDW⟩ := hrel
    by_cases hk2 : k < 2
    · obtain ⟨wb, rfl⟩ : ∃ wb : World, wb = wr := ⟨_, rfl⟩
      have HPS := Lib.hid (plK_succ px py qx qy ⟨lx, ly, hx, hy⟩ hk2)
      have HCC := Lib.hid (NBW.out.cells.2.2.2 k hk2)
      obtain ⟨cx, hcx⟩ : ∃ c, c = cX ⟨lx, ly, hx, hy⟩ k := ⟨_, rfl⟩
      obtain ⟨cy, hcy⟩ : ∃ c, c = cY ⟨lx, ly, hx, hy⟩ k := ⟨_, rfl⟩
      have ICX : Hid (in24 cx) := Lib.hid (by rw [hcx]; unfold cX; split; exact IP.out.2.2.2.2.1; exact IP.out.2.2.2.2.2.2.1)
      have ICY : Hid (in24 cy) := Lib.hid (by rw [hcy]; unfold cY; split; exact IP.out.2.2.2.2.2.1; exact IP.out.2.2.2.2.2.2.2)
      rw [← hcx, ← hcy] at HPS HCC
      have HCX := Lib.hid hcx
      have HCY := Lib.hid hcy
      clear hcx hcy
      have HL6 := Lib.hid (plK_le px py qx qy ⟨lx, ly, hx, hy⟩ k)
      generalize plK px py qx qy ⟨lx, ly, hx, hy⟩ k = L at NDW HPS HL6
      have hc0 := NBW.out.cells.1
      have hc1 := NBW.out.cells.2.1
      by_cases ex : px = qx
      · have ey : ¬ py = qy := fun e => HNE.out ⟨ex, e⟩
        have HX1 := Lib.hid (plX_eq (c := cx) ex)
        have HX2 := Lib.hid (plX_ne (c := cy) ey)
        have W1 : Hid (wrap64 (cy - py) = cy - py) := Lib.hid (w_sub IP.out.2.1 ICY.out)
        have W2 : Hid (wrap64 (qy - py) = qy - py) := Lib.hid (w_sub IP.out.2.1 IP.out.2.2.2.1)
        have W3 : Hid (wrap64 ((cy - py) * signI (qy - py)) = (cy - py) * signI (qy - py)) := Lib.hid (w_sign IP.out.2.1 ICY.out)
        have W4 : Hid (wrap64 ((qy - py) * signI (qy - py)) = (qy - py) * signI (qy - py)) := Lib.hid (w_sign IP.out.2.1 IP.out.2.2.2.1)
        go_wp2_with fail
        have HC2 := Lib.hid (NDW.out.shape)
        obtain ⟨gn, cn, gd, cd, evn, evd, -, -, hgl, hgl2, -⟩ := HC2.out
        obtain ⟨hOn, hOd, ⟨g1, eg1, hg1n⟩, ⟨g2, eg2, hg2d⟩, hHead⟩ := NDW.out
        have GN : Hid (vn.ownBlock = some gn) := Lib.hid (by rw [evn]; rfl)
        have GD : Hid (vd.ownBlock = some gd) := Lib.hid (by rw [evd]; rfl)
        have HAP := Lib.hid (NDW.out.apart GN.out GD.out)
        obtain rfl : g1 = gn := Option.some.inj (eg1.symm.trans GN.out)
        obtain rfl : g2 = gd := Option.some.inj (eg2.symm.trans GD.out)
        clear eg1 eg2 HC2
        have HGN := Lib.hid hg1n
        have HGD := Lib.hid hg2d
        have HHD := Lib.hid hHead
        clear hg1n hg2d hHead
        obtain ⟨m, hm⟩ : ∃ m, m = L.length := ⟨_, rfl⟩
        have HOWN : Hid (wb.ownsRow (w.heap.size + 3) 3 1 vn m (vF L) ∧ wb.ownsRow (w.heap.size + 3) 3 1 vd m (vS L)) := Lib.hid (by rw [hm]; exact ⟨hOn, hOd⟩)
        have HML := Lib.hid hm
        have HM6 : Hid (m ≤ 8) := Lib.hid (by rw [hm]; have := HL6.out; omega)
        have HM63 : Hid (m + 1 ≤ maxLen) := Lib.hid (by have := HM6.out; unfold maxLen; omega)
        have HMB : Hid ((m + 1) * 8 ≤ 140737488355328) := Lib.hid (by have := HM6.out; omega)
        have HSLB : Hid (∀ s ∈ ([⟨g1, m, vF L ++ [.int .i64 ((cy - py) * signI (qy - py))]⟩, ⟨g2, m, vS L ++ [.int .i64 ((qy - py) * signI (qy - py))]⟩] : List Res), s.g < wb.heap.size) := Lib.hid (by intro s hs; simp only [List.mem_cons, List.not_mem_nil, or_false] at hs; rcases hs with rfl | rfl <;> assumption)
        have NE1 : Hid (∀ s' ∈ ([⟨g1, m, vF L ++ [.int .i64 ((cy - py) * signI (qy - py))]⟩, ⟨g2, m, vS L ++ [.int .i64 ((qy - py) * signI (qy - py))]⟩] : List Res), s' ≠ ⟨g1, m, vF L ++ [.int .i64 ((cy - py) * signI (qy - py))]⟩ → s'.g ≠ g1) := Lib.hid (by intro s hs hne; simp only [List.mem_cons, List.not_mem_nil, or_false] at hs; rcases hs with rfl | rfl; exact absurd rfl hne; exact fun e => HAP.out e.symm)
        have NE2 : Hid (∀ s' ∈ ([⟨g1, m, vF L ++ [.int .i64 ((cy - py) * signI (qy - py))]⟩, ⟨g2, m, vS L ++ [.int .i64 ((qy - py) * signI (qy - py))]⟩] : List Res), s' ≠ ⟨g2, m, vS L ++ [.int .i64 ((qy - py) * signI (qy - py))]⟩ → s'.g ≠ g2) := Lib.hid (by intro s hs hne; simp only [List.mem_cons, List.not_mem_nil, or_false] at hs; rcases hs with rfl | rfl; exact HAP.out; exact absurd rfl hne)
        clear hm hOn hOd hgl hgl2
        have SGN : Hid (∀ s ∈ ([⟨g1, m, vF L ++ [.int .i64 ((cy - py) * signI (qy - py))]⟩, ⟨g2, m, vS L ++ [.int .i64 ((qy - py) * signI (qy - py))]⟩] : List Res), s.g = w.heap.size + 3 ∨ s.g = w.heap.size + 4 ∨ w.heap.size + 7 ≤ s.g) := Lib.hid (by intro s hs; have h1 := HGN.out; have h2 := HGD.out; simp only [List.mem_cons, List.not_mem_nil, or_false] at hs; rcases hs with rfl | rfl; exact .elim h1 .inl (fun h => .inr (.inr h)); exact .elim h2 (fun h => .inr (.inl h)) (fun h => .inr (.inr h)))
        have CF : Hid (∀ w', Rs [⟨g1, m, vF L ++ [.int .i64 ((cy - py) * signI (qy - py))]⟩, ⟨g2, m, vS L ++ [.int .i64 ((qy - py) * signI (qy - py))]⟩] wb w' → NB w.heap.size w w' px py qx qy lx ly hx hy) := Lib.hid (fun w' hr => NBW.out.rs hr SGN.out)
        clear evn evd
        refine TabR.wp_region_tabR (Rs.pre HSLB.out) 32 (by kernel_rfl) (by kernel_rfl) ?_
        intro w0 hw0 hg1 hg1'
        have HSL : Hid (∀ s ∈ ([⟨g1, m, vF L ++ [.int .i64 ((cy - py) * signI (qy - py))]⟩, ⟨g2, m, vS L ++ [.int .i64 ((qy - py) * signI (qy - py))]⟩] : List Res), s.g < wb.heap.size) := HSLB
        have HN0 : Hid (wb.heap.size ≤ w0.heap.size) := Lib.hid hg1.size
        have HOWN : Hid (w0.ownsRow (w.heap.size + 3) 3 1 vn m (vF L) ∧ w0.ownsRow (w.heap.size + 3) 3 1 vd m (vS L)) := Lib.hid ⟨ownsRow_later HOWN.out.1 hg1, ownsRow_later HOWN.out.2 hg1⟩
        have HB3 : Hid (w.heap.size + 3 ≤ w0.heap.size) := Lib.hid (by have := NBW.out.2.1; have := hg1.size; omega)
        have HK := Lib.hid hk2
        have hk3 : ¬ ((2 : Int) ≤ (k : Int)) := by omega
        have CF : Hid (∀ w', Rs [⟨g1, m, vF L ++ [.int .i64 ((cy - py) * signI (qy - py))]⟩, ⟨g2, m, vS L ++ [.int .i64 ((qy - py) * signI (qy - py))]⟩] w0 w' → _) := Lib.hid (fun w' hr => (CF.out w' ((Rs.pre HSL.out).trans ((Rs.pre HSL.out).of hg1) hr)).cellsK HK.out HCX.out HCY.out)
        simp only [List.take_succ_cons, List.take_zero, List.drop_succ_cons, List.drop_zero]
        refine TabR.tabR_val (Rs.pre HSL.out) (vn) (fun r w1 hr hg hA => by obtain ⟨q0, -⟩ := hA; have q0e : r (.tmp 7) = vn := q0; exact ⟨rfl, by simp [go_sem, q0e]⟩) ?_
        refine TabR.tabR_val (Rs.pre HSL.out) (.slice (some ⟨w.heap.size + 6, 0, none⟩) 2 2) (fun r w1 hr hg hA => by obtain ⟨q0, -⟩ := hA; have q0e : r (.tmp 10) = .slice (some ⟨w.heap.size + 6, 0, none⟩) 2 2 := q0; exact ⟨rfl, by simp [go_sem, q0e]⟩) ?_
        refine TabR.tabR_val (Rs.pre HSL.out) (.int .i64 (k : Int)) (fun r w1 hr hg hA => by obtain ⟨q0, -⟩ := hA; have q0e : r (.tmp 11) = .int .i64 (k : Int) := q0; exact ⟨rfl, by simp [go_sem, q0e]⟩) ?_
        refine TabR.tabR_val (Rs.pre HSL.out) (.pointer (some ⟨w.heap.size + 6, k, none⟩)) (fun r w1 hr hg hA => by obtain ⟨⟨_, q0⟩, ⟨_, q1⟩, -⟩ := hA; have q0e : r (.tmp 77) = .slice (some ⟨w.heap.size + 6, 0, none⟩) 2 2 := q0; have q1e : r (.tmp 78) = .int .i64 (k : Int) := q1; exact ⟨rfl, by simp [go_sem, q0e, q1e, hk3]⟩) ?_
        refine TabR.tabR_val (Rs.pre HSL.out) (.int .i64 cy) (fun r w1 hr hg hA => by obtain ⟨⟨_, q0⟩, -⟩ := hA; have q0e : r (.tmp 79) = .pointer (some ⟨w.heap.size + 6, k, none⟩) := q0; have hc := CF.out w1 hg; exact ⟨rfl, by simp [go_sem, q0e, hc]⟩) ?_
        refine TabR.tabR_val (Rs.pre HSL.out) (.pointer (some ⟨w.heap.size, 1, none⟩)) (fun r w1 hr hg hA => by obtain ⟨q0, -⟩ := hA; have q0e : r (.tmp 3) = .pointer (some ⟨w.heap.size, 0, none⟩) := q0; exact ⟨rfl, by simp [go_sem, q0e]⟩) ?_
        refine TabR.tabR_val (Rs.pre HSL.out) (.int .i64 py) (fun r w1 hr hg hA => by obtain ⟨⟨_, q0⟩, -⟩ := hA; have q0e : r (.tmp 81) = .pointer (some ⟨w.heap.size, 1, none⟩) := q0; have hc := CF.out w1 hg; exact ⟨rfl, by simp [go_sem, q0e, hc]⟩) ?_
        refine TabR.tabR_val (Rs.pre HSL.out) (.int .i64 (cy - py)) (fun r w1 hr hg hA => by obtain ⟨⟨_, q0⟩, ⟨_, q1⟩, -⟩ := hA; have q0e : r (.tmp 80) = .int .i64 cy := q0; have q1e : r (.tmp 82) = .int .i64 py := q1; exact ⟨rfl, by simp [go_sem, q0e, q1e, i64w, W1.out]⟩) ?_
        refine TabR.tabR_val (Rs.pre HSL.out) (.pointer (some ⟨w.heap.size + 1, 1, none⟩)) (fun r w1 hr hg hA => by obtain ⟨q0, -⟩ := hA; have q0e : r (.tmp 4) = .pointer (some ⟨w.heap.size + 1, 0, none⟩) := q0; exact ⟨rfl, by simp [go_sem, q0e]⟩) ?_
        refine TabR.tabR_val (Rs.pre HSL.out) (.int .i64 qy) (fun r w1 hr hg hA => by obtain ⟨⟨_, q0⟩, -⟩ := hA; have q0e : r (.tmp 84) = .pointer (some ⟨w.heap.size + 1, 1, none⟩) := q0; have hc := CF.out w1 hg; exact ⟨rfl, by simp [go_sem, q0e, hc]⟩) ?_
        refine TabR.tabR_val (Rs.pre HSL.out) (.pointer (some ⟨w.heap.size, 1, none⟩)) (fun r w1 hr hg hA => by obtain ⟨q0, -⟩ := hA; have q0e : r (.tmp 3) = .pointer (some ⟨w.heap.size, 0, none⟩) := q0; exact ⟨rfl, by simp [go_sem, q0e]⟩) ?_
        refine TabR.tabR_val (Rs.pre HSL.out) (.int .i64 py) (fun r w1 hr hg hA => by obtain ⟨⟨_, q0⟩, -⟩ := hA; have q0e : r (.tmp 86) = .pointer (some ⟨w.heap.size, 1, none⟩) := q0; have hc := CF.out w1 hg; exact ⟨rfl, by simp [go_sem, q0e, hc]⟩) ?_
        refine TabR.tabR_val (Rs.pre HSL.out) (.int .i64 (qy - py)) (fun r w1 hr hg hA => by obtain ⟨⟨_, q0⟩, ⟨_, q1⟩, -⟩ := hA; have q0e : r (.tmp 85) = .int .i64 qy := q0; have q1e : r (.tmp 87) = .int .i64 py := q1; exact ⟨rfl, by simp [go_sem, q0e, q1e, i64w, W2.out]⟩) ?_
        refine TabR.tabR_call (Rs.pre HSL.out) (v := .int .i64 (signI (qy - py))) (fun w1 hg => rsign_any (qy - py) w1) (fun r w1 hr hg hA => by obtain ⟨⟨_, q0⟩, -⟩ := hA; have q0e : r (.tmp 88) = .int .i64 (qy - py) := q0; exact ⟨rfl, by simp [go_sem, hr.func, q0e]⟩) ?_
        refine TabR.tabR_val (Rs.pre HSL.out) (.int .i64 ((cy - py) * signI (qy - py))) (fun r w1 hr hg hA => by obtain ⟨⟨_, q0⟩, ⟨_, q1⟩, -⟩ := hA; have q0e : r (.tmp 83) = .int .i64 (cy - py) := q0; have q1e : r (.tmp 89) = .int .i64 (signI (qy - py)) := q1; exact ⟨rfl, by simp [go_sem, q0e, q1e, i64w, W3.out]⟩) ?_
        refine TabR.tabR_block (Rs.pre HSL.out) HN0.out (.cells #[.int .i64 ((cy - py) * signI (qy - py))] 3) (fun b => .slice (some ⟨b, 0, none⟩) 1 1) (fun r w1 hr hg hA => by obtain ⟨⟨_, q0⟩, -⟩ := hA; have q0e : r (.tmp 90) = .int .i64 ((cy - py) * signI (qy - py)) := q0; exact ⟨rfl, by simp [go_sem, q0e]⟩) ?_
        refine TabR.tabR_append HSL.out HN0.out (s := ⟨g1, m, vF L ++ [.int .i64 ((cy - py) * signI (qy - py))]⟩) (by simp) NE1.out (.tmp 76) (.tmp 91) (w.heap.size + 3) 64 3 i0 (.int .i64 0) 1 8 rfl Try.underlying64 hi0 hz0 hz1 hz2 rfl (by decide) vn m (vF L) (HOWN.out.1) (GN.out) (Nat.mul_one m).symm 1 [.int .i64 ((cy - py) * signI (qy - py))] rfl rfl (by simp [Value.oneCell']) HM63.out HMB.out HB3.out (fun r w1 hr hg hA => by obtain ⟨⟨_, q0⟩, ⟨_, q1⟩, -⟩ := hA; have q0e : r (.tmp 76) = vn := q0; obtain ⟨b, q1e, -, hb⟩ := q1; exact ⟨rfl, q0e, b, 1, q1e, one_cell hb⟩) ?_
        refine TabR.tabR_val (Rs.pre HSL.out) (vd) (fun r w1 hr hg hA => by obtain ⟨q0, -⟩ := hA; have q0e : r (.tmp 8) = vd := q0; exact ⟨rfl, by simp [go_sem, q0e]⟩) ?_
        refine TabR.tabR_val (Rs.pre HSL.out) (.pointer (some ⟨w.heap.size + 1, 1, none⟩)) (fun r w1 hr hg hA => by obtain ⟨q0, -⟩ := hA; have q0e : r (.tmp 4) = .pointer (some ⟨w.heap.size + 1, 0, none⟩) := q0; exact ⟨rfl, by simp [go_sem, q0e]⟩) ?_
        refine TabR.tabR_val (Rs.pre HSL.out) (.int .i64 qy) (fun r w1 hr hg hA => by obtain ⟨⟨_, q0⟩, -⟩ := hA; have q0e : r (.tmp 94) = .pointer (some ⟨w.heap.size + 1, 1, none⟩) := q0; have hc := CF.out w1 hg; exact ⟨rfl, by simp [go_sem, q0e, hc]⟩) ?_
        refine TabR.tabR_val (Rs.pre HSL.out) (.pointer (some ⟨w.heap.size, 1, none⟩)) (fun r w1 hr hg hA => by obtain ⟨q0, -⟩ := hA; have q0e : r (.tmp 3) = .pointer (some ⟨w.heap.size, 0, none⟩) := q0; exact ⟨rfl, by simp [go_sem, q0e]⟩) ?_
        refine TabR.tabR_val (Rs.pre HSL.out) (.int .i64 py) (fun r w1 hr hg hA => by obtain ⟨⟨_, q0⟩, -⟩ := hA; have q0e : r (.tmp 96) = .pointer (some ⟨w.heap.size, 1, none⟩) := q0; have hc := CF.out w1 hg; exact ⟨rfl, by simp [go_sem, q0e, hc]⟩) ?_
        refine TabR.tabR_val (Rs.pre HSL.out) (.int .i64 (qy - py)) (fun r w1 hr hg hA => by obtain ⟨⟨_, q0⟩, ⟨_, q1⟩, -⟩ := hA; have q0e : r (.tmp 95) = .int .i64 qy := q0; have q1e : r (.tmp 97) = .int .i64 py := q1; exact ⟨rfl, by simp [go_sem, q0e, q1e, i64w, W2.out]⟩) ?_
        refine TabR.tabR_val (Rs.pre HSL.out) (.pointer (some ⟨w.heap.size + 1, 1, none⟩)) (fun r w1 hr hg hA => by obtain ⟨q0, -⟩ := hA; have q0e : r (.tmp 4) = .pointer (some ⟨w.heap.size + 1, 0, none⟩) := q0; exact ⟨rfl, by simp [go_sem, q0e]⟩) ?_
        refine TabR.tabR_val (Rs.pre HSL.out) (.int .i64 qy) (fun r w1 hr hg hA => by obtain ⟨⟨_, q0⟩, -⟩ := hA; have q0e : r (.tmp 99) = .pointer (some ⟨w.heap.size + 1, 1, none⟩) := q0; have hc := CF.out w1 hg; exact ⟨rfl, by simp [go_sem, q0e, hc]⟩) ?_
        refine TabR.tabR_val (Rs.pre HSL.out) (.pointer (some ⟨w.heap.size, 1, none⟩)) (fun r w1 hr hg hA => by obtain ⟨q0, -⟩ := hA; have q0e : r (.tmp 3) = .pointer (some ⟨w.heap.size, 0, none⟩) := q0; exact ⟨rfl, by simp [go_sem, q0e]⟩) ?_
        refine TabR.tabR_val (Rs.pre HSL.out) (.int .i64 py) (fun r w1 hr hg hA => by obtain ⟨⟨_, q0⟩, -⟩ := hA; have q0e : r (.tmp 101) = .pointer (some ⟨w.heap.size, 1, none⟩) := q0; have hc := CF.out w1 hg; exact ⟨rfl, by simp [go_sem, q0e, hc]⟩) ?_
        refine TabR.tabR_val (Rs.pre HSL.out) (.int .i64 (qy - py)) (fun r w1 hr hg hA => by obtain ⟨⟨_, q0⟩, ⟨_, q1⟩, -⟩ := hA; have q0e : r (.tmp 100) = .int .i64 qy := q0; have q1e : r (.tmp 102) = .int .i64 py := q1; exact ⟨rfl, by simp [go_sem, q0e, q1e, i64w, W2.out]⟩) ?_
        refine TabR.tabR_call (Rs.pre HSL.out) (v := .int .i64 (signI (qy - py))) (fun w1 hg => rsign_any (qy - py) w1) (fun r w1 hr hg hA => by obtain ⟨⟨_, q0⟩, -⟩ := hA; have q0e : r (.tmp 103) = .int .i64 (qy - py) := q0; exact ⟨rfl, by simp [go_sem, hr.func, q0e]⟩) ?_
        refine TabR.tabR_val (Rs.pre HSL.out) (.int .i64 ((qy - py) * signI (qy - py))) (fun r w1 hr hg hA => by obtain ⟨⟨_, q0⟩, ⟨_, q1⟩, -⟩ := hA; have q0e : r (.tmp 98) = .int .i64 (qy - py) := q0; have q1e : r (.tmp 104) = .int .i64 (signI (qy - py)) := q1; exact ⟨rfl, by simp [go_sem, q0e, q1e, i64w, W4.out]⟩) ?_
        refine TabR.tabR_block (Rs.pre HSL.out) HN0.out (.cells #[.int .i64 ((qy - py) * signI (qy - py))] 3) (fun b => .slice (some ⟨b, 0, none⟩) 1 1) (fun r w1 hr hg hA => by obtain ⟨⟨_, q0⟩, -⟩ := hA; have q0e : r (.tmp 105) = .int .i64 ((qy - py) * signI (qy - py)) := q0; exact ⟨rfl, by simp [go_sem, q0e]⟩) ?_
        refine TabR.tabR_append HSL.out HN0.out (s := ⟨g2, m, vS L ++ [.int .i64 ((qy - py) * signI (qy - py))]⟩) (by simp) NE2.out (.tmp 93) (.tmp 106) (w.heap.size + 3) 64 3 i0 (.int .i64 0) 1 8 rfl Try.underlying64 hi0 hz0 hz1 hz2 rfl (by decide) vd m (vS L) (HOWN.out.2) (GD.out) (Nat.mul_one m).symm 1 [.int .i64 ((qy - py) * signI (qy - py))] rfl rfl (by simp [Value.oneCell']) HM63.out HMB.out HB3.out (fun r w1 hr hg hA => by obtain ⟨⟨_, q0⟩, ⟨_, q1⟩, -⟩ := hA; have q0e : r (.tmp 93) = vd := q0; obtain ⟨b, q1e, -, hb⟩ := q1; exact ⟨rfl, q0e, b, 1, q1e, one_cell hb⟩) ?_
        refine TabR.tabR_end ?_
        simp only [List.reverse_cons, List.reverse_nil, List.nil_append, List.cons_append, Out, forall_eq, forall_const, Act.put, List.setIfInBounds_toArray, List.set_cons_succ, List.set_cons_zero]
        intro wA2 hrA v1 hv1 vn2 hn2 v3 hv3 vd2 hd2
        clear hv1 hv3
        have NBA2 : Hid (NB w.heap.size w wA2 px py qx qy lx ly hx hy) := Lib.hid (NBW.out.rs ((Rs.pre HSL.out).trans ((Rs.pre HSL.out).of hg1) hrA) SGN.out)
        have NDA20 : Hid (ND w.heap.size wA2 vn2 vd2 (L ++ [(((cy - py) * signI (qy - py)), ((qy - py) * signI (qy - py)))])) := Lib.hid (ND.grown HML.out NBW.out.2.1 HGN.out HGD.out HHD.out hn2 hd2)
        clear hrA hn2 hd2 hg1 hg1' hw0 CF HB3 HOWN HN0 HSL SGN NE1 NE2 HSLB HMB HM63 HM6 HAP GN GD HGN HGD HHD hk3 HK
        obtain ⟨L2, hL2⟩ : ∃ l, l = L ++ [(((cy - py) * signI (qy - py)), ((qy - py) * signI (qy - py)))] := ⟨_, rfl⟩
        rw [← hL2] at NDA20
        have NDA2 := Lib.hid NDA20.out
        have HLL2 := Lib.hid hL2
        have HL62 : Hid (L2.length ≤ 7) := Lib.hid (by rw [hL2, List.length_append]; have := HL6.out; simp only [List.length_cons, List.length_nil]; omega)
        clear hL2 NDA20 HML
        clear W1 W2 W3 W4
        go_wp2
        exact ⟨⟨k + 1, vn2, vd2, rfl, rfl, by simp, by omega, NBA2, Lib.hid (by rw [HPS.out, HX1.out, HX2.out, List.append_nil, ← HLL2.out]; exact NDA2.out)⟩, by simp only [intOf]; omega⟩
      · by_cases ey : py = qy
        · have HX1 := Lib.hid (plX_ne (c := cx) ex)
          have HX2 := Lib.hid (plX_eq (c := cy) ey)
          have W1 : Hid (wrap64 (cx - px) = cx - px) := Lib.hid (w_sub IP.out.1 ICX.out)
          have W2 : Hid (wrap64 (qx - px) = qx - px) := Lib.hid (w_sub IP.out.1 IP.out.2.2.1)
          have W3 : Hid (wrap64 ((cx - px) * signI (qx - px)) = (cx - px) * signI (qx - px)) := Lib.hid (w_sign IP.out.1 ICX.out)
          have W4 : Hid (wrap64 ((qx - px) * signI (qx - px)) = (qx - px) * signI (qx - px)) := Lib.hid (w_sign IP.out.1 IP.out.2.2.1)
          go_wp2_with fail
          have HC2 := Lib.hid (NDW.out.shape)
          obtain ⟨gn, cn, gd, cd, evn, evd, -, -, hgl, hgl2, -⟩ := HC2.out
          obtain ⟨hOn, hOd, ⟨g1, eg1, hg1n⟩, ⟨g2, eg2, hg2d⟩, hHead⟩ := NDW.out
          have GN : Hid (vn.ownBlock = some gn) := Lib.hid (by rw [evn]; rfl)
          have GD : Hid (vd.ownBlock = some gd) := Lib.hid (by rw [evd]; rfl)
          have HAP := Lib.hid (NDW.out.apart GN.out GD.out)
          obtain rfl : g1 = gn := Option.some.inj (eg1.symm.trans GN.out)
          obtain rfl : g2 = gd := Option.some.inj (eg2.symm.trans GD.out)
          clear eg1 eg2 HC2
          have HGN := Lib.hid hg1n
          have HGD := Lib.hid hg2d
          have HHD := Lib.hid hHead
          clear hg1n hg2d hHead
          obtain ⟨m, hm⟩ : ∃ m, m = L.length := ⟨_, rfl⟩
          have HOWN : Hid (wb.ownsRow (w.heap.size + 3) 3 1 vn m (vF L) ∧ wb.ownsRow (w.heap.size + 3) 3 1 vd m (vS L)) := Lib.hid (by rw [hm]; exact ⟨hOn, hOd⟩)
          have HML := Lib.hid hm
          have HM6 : Hid (m ≤ 8) := Lib.hid (by rw [hm]; have := HL6.out; omega)
          have HM63 : Hid (m + 1 ≤ maxLen) := Lib.hid (by have := HM6.out; unfold maxLen; omega)
          have HMB : Hid ((m + 1) * 8 ≤ 140737488355328) := Lib.hid (by have := HM6.out; omega)
          have HSLB : Hid (∀ s ∈ ([⟨g1, m, vF L ++ [.int .i64 ((cx - px) * signI (qx - px))]⟩, ⟨g2, m, vS L ++ [.int .i64 ((qx - px) * signI (qx - px))]⟩] : List Res), s.g < wb.heap.size) := Lib.hid (by intro s hs; simp only [List.mem_cons, List.not_mem_nil, or_false] at hs; rcases hs with rfl | rfl <;> assumption)
          have NE1 : Hid (∀ s' ∈ ([⟨g1, m, vF L ++ [.int .i64 ((cx - px) * signI (qx - px))]⟩, ⟨g2, m, vS L ++ [.int .i64 ((qx - px) * signI (qx - px))]⟩] : List Res), s' ≠ ⟨g1, m, vF L ++ [.int .i64 ((cx - px) * signI (qx - px))]⟩ → s'.g ≠ g1) := Lib.hid (by intro s hs hne; simp only [List.mem_cons, List.not_mem_nil, or_false] at hs; rcases hs with rfl | rfl; exact absurd rfl hne; exact fun e => HAP.out e.symm)
          have NE2 : Hid (∀ s' ∈ ([⟨g1, m, vF L ++ [.int .i64 ((cx - px) * signI (qx - px))]⟩, ⟨g2, m, vS L ++ [.int .i64 ((qx - px) * signI (qx - px))]⟩] : List Res), s' ≠ ⟨g2, m, vS L ++ [.int .i64 ((qx - px) * signI (qx - px))]⟩ → s'.g ≠ g2) := Lib.hid (by intro s hs hne; simp only [List.mem_cons, List.not_mem_nil, or_false] at hs; rcases hs with rfl | rfl; exact HAP.out; exact absurd rfl hne)
          clear hm hOn hOd hgl hgl2
          have SGN : Hid (∀ s ∈ ([⟨g1, m, vF L ++ [.int .i64 ((cx - px) * signI (qx - px))]⟩, ⟨g2, m, vS L ++ [.int .i64 ((qx - px) * signI (qx - px))]⟩] : List Res), s.g = w.heap.size + 3 ∨ s.g = w.heap.size + 4 ∨ w.heap.size + 7 ≤ s.g) := Lib.hid (by intro s hs; have h1 := HGN.out; have h2 := HGD.out; simp only [List.mem_cons, List.not_mem_nil, or_false] at hs; rcases hs with rfl | rfl; exact .elim h1 .inl (fun h => .inr (.inr h)); exact .elim h2 (fun h => .inr (.inl h)) (fun h => .inr (.inr h)))
          have CF : Hid (∀ w', Rs [⟨g1, m, vF L ++ [.int .i64 ((cx - px) * signI (qx - px))]⟩, ⟨g2, m, vS L ++ [.int .i64 ((qx - px) * signI (qx - px))]⟩] wb w' → NB w.heap.size w w' px py qx qy lx ly hx hy) := Lib.hid (fun w' hr => NBW.out.rs hr SGN.out)
          clear evn evd
          refine TabR.wp_region_tabR (Rs.pre HSLB.out) 32 (by kernel_rfl) (by kernel_rfl) ?_
          intro w0 hw0 hg1 hg1'
          have HSL : Hid (∀ s ∈ ([⟨g1, m, vF L ++ [.int .i64 ((cx - px) * signI (qx - px))]⟩, ⟨g2, m, vS L ++ [.int .i64 ((qx - px) * signI (qx - px))]⟩] : List Res), s.g < wb.heap.size) := HSLB
          have HN0 : Hid (wb.heap.size ≤ w0.heap.size) := Lib.hid hg1.size
          have HOWN : Hid (w0.ownsRow (w.heap.size + 3) 3 1 vn m (vF L) ∧ w0.ownsRow (w.heap.size + 3) 3 1 vd m (vS L)) := Lib.hid ⟨ownsRow_later HOWN.out.1 hg1, ownsRow_later HOWN.out.2 hg1⟩
          have HB3 : Hid (w.heap.size + 3 ≤ w0.heap.size) := Lib.hid (by have := NBW.out.2.1; have := hg1.size; omega)
          have HK := Lib.hid hk2
          have hk3 : ¬ ((2 : Int) ≤ (k : Int)) := by omega
          have CF : Hid (∀ w', Rs [⟨g1, m, vF L ++ [.int .i64 ((cx - px) * signI (qx - px))]⟩, ⟨g2, m, vS L ++ [.int .i64 ((qx - px) * signI (qx - px))]⟩] w0 w' → _) := Lib.hid (fun w' hr => (CF.out w' ((Rs.pre HSL.out).trans ((Rs.pre HSL.out).of hg1) hr)).cellsK HK.out HCX.out HCY.out)
          simp only [List.take_succ_cons, List.take_zero, List.drop_succ_cons, List.drop_zero]
          refine TabR.tabR_val (Rs.pre HSL.out) (vn) (fun r w1 hr hg hA => by obtain ⟨q0, -⟩ := hA; have q0e : r (.tmp 7) = vn := q0; exact ⟨rfl, by simp [go_sem, q0e]⟩) ?_
          refine TabR.tabR_val (Rs.pre HSL.out) (.slice (some ⟨w.heap.size + 5, 0, none⟩) 2 2) (fun r w1 hr hg hA => by obtain ⟨q0, -⟩ := hA; have q0e : r (.tmp 9) = .slice (some ⟨w.heap.size + 5, 0, none⟩) 2 2 := q0; exact ⟨rfl, by simp [go_sem, q0e]⟩) ?_
          refine TabR.tabR_val (Rs.pre HSL.out) (.int .i64 (k : Int)) (fun r w1 hr hg hA => by obtain ⟨q0, -⟩ := hA; have q0e : r (.tmp 11) = .int .i64 (k : Int) := q0; exact ⟨rfl, by simp [go_sem, q0e]⟩) ?_
          refine TabR.tabR_val (Rs.pre HSL.out) (.pointer (some ⟨w.heap.size + 5, k, none⟩)) (fun r w1 hr hg hA => by obtain ⟨⟨_, q0⟩, ⟨_, q1⟩, -⟩ := hA; have q0e : r (.tmp 40) = .slice (some ⟨w.heap.size + 5, 0, none⟩) 2 2 := q0; have q1e : r (.tmp 41) = .int .i64 (k : Int) := q1; exact ⟨rfl, by simp [go_sem, q0e, q1e, hk3]⟩) ?_
          refine TabR.tabR_val (Rs.pre HSL.out) (.int .i64 cx) (fun r w1 hr hg hA => by obtain ⟨⟨_, q0⟩, -⟩ := hA; have q0e : r (.tmp 42) = .pointer (some ⟨w.heap.size + 5, k, none⟩) := q0; have hc := CF.out w1 hg; exact ⟨rfl, by simp [go_sem, q0e, hc]⟩) ?_
          refine TabR.tabR_val (Rs.pre HSL.out) (.pointer (some ⟨w.heap.size, 0, none⟩)) (fun r w1 hr hg hA => by obtain ⟨q0, -⟩ := hA; have q0e : r (.tmp 3) = .pointer (some ⟨w.heap.size, 0, none⟩) := q0; exact ⟨rfl, by simp [go_sem, q0e]⟩) ?_
          refine TabR.tabR_val (Rs.pre HSL.out) (.int .i64 px) (fun r w1 hr hg hA => by obtain ⟨⟨_, q0⟩, -⟩ := hA; have q0e : r (.tmp 44) = .pointer (some ⟨w.heap.size, 0, none⟩) := q0; have hc := CF.out w1 hg; exact ⟨rfl, by simp [go_sem, q0e, hc]⟩) ?_
          refine TabR.tabR_val (Rs.pre HSL.out) (.int .i64 (cx - px)) (fun r w1 hr hg hA => by obtain ⟨⟨_, q0⟩, ⟨_, q1⟩, -⟩ := hA; have q0e : r (.tmp 43) = .int .i64 cx := q0; have q1e : r (.tmp 45) = .int .i64 px := q1; exact ⟨rfl, by simp [go_sem, q0e, q1e, i64w, W1.out]⟩) ?_
          refine TabR.tabR_val (Rs.pre HSL.out) (.pointer (some ⟨w.heap.size + 1, 0, none⟩)) (fun r w1 hr hg hA => by obtain ⟨q0, -⟩ := hA; have q0e : r (.tmp 4) = .pointer (some ⟨w.heap.size + 1, 0, none⟩) := q0; exact ⟨rfl, by simp [go_sem, q0e]⟩) ?_
          refine TabR.tabR_val (Rs.pre HSL.out) (.int .i64 qx) (fun r w1 hr hg hA => by obtain ⟨⟨_, q0⟩, -⟩ := hA; have q0e : r (.tmp 47) = .pointer (some ⟨w.heap.size + 1, 0, none⟩) := q0; have hc := CF.out w1 hg; exact ⟨rfl, by simp [go_sem, q0e, hc]⟩) ?_
          refine TabR.tabR_val (Rs.pre HSL.out) (.pointer (some ⟨w.heap.size, 0, none⟩)) (fun r w1 hr hg hA => by obtain ⟨q0, -⟩ := hA; have q0e : r (.tmp 3) = .pointer (some ⟨w.heap.size, 0, none⟩) := q0; exact ⟨rfl, by simp [go_sem, q0e]⟩) ?_
          refine TabR.tabR_val (Rs.pre HSL.out) (.int .i64 px) (fun r w1 hr hg hA => by obtain ⟨⟨_, q0⟩, -⟩ := hA; have q0e : r (.tmp 49) = .pointer (some ⟨w.heap.size, 0, none⟩) := q0; have hc := CF.out w1 hg; exact ⟨rfl, by simp [go_sem, q0e, hc]⟩) ?_
          refine TabR.tabR_val (Rs.pre HSL.out) (.int .i64 (qx - px)) (fun r w1 hr hg hA => by obtain ⟨⟨_, q0⟩, ⟨_, q1⟩, -⟩ := hA; have q0e : r (.tmp 48) = .int .i64 qx := q0; have q1e : r (.tmp 50) = .int .i64 px := q1; exact ⟨rfl, by simp [go_sem, q0e, q1e, i64w, W2.out]⟩) ?_
          refine TabR.tabR_call (Rs.pre HSL.out) (v := .int .i64 (signI (qx - px))) (fun w1 hg => rsign_any (qx - px) w1) (fun r w1 hr hg hA => by obtain ⟨⟨_, q0⟩, -⟩ := hA; have q0e : r (.tmp 51) = .int .i64 (qx - px) := q0; exact ⟨rfl, by simp [go_sem, hr.func, q0e]⟩) ?_
          refine TabR.tabR_val (Rs.pre HSL.out) (.int .i64 ((cx - px) * signI (qx - px))) (fun r w1 hr hg hA => by obtain ⟨⟨_, q0⟩, ⟨_, q1⟩, -⟩ := hA; have q0e : r (.tmp 46) = .int .i64 (cx - px) := q0; have q1e : r (.tmp 52) = .int .i64 (signI (qx - px)) := q1; exact ⟨rfl, by simp [go_sem, q0e, q1e, i64w, W3.out]⟩) ?_
          refine TabR.tabR_block (Rs.pre HSL.out) HN0.out (.cells #[.int .i64 ((cx - px) * signI (qx - px))] 3) (fun b => .slice (some ⟨b, 0, none⟩) 1 1) (fun r w1 hr hg hA => by obtain ⟨⟨_, q0⟩, -⟩ := hA; have q0e : r (.tmp 53) = .int .i64 ((cx - px) * signI (qx - px)) := q0; exact ⟨rfl, by simp [go_sem, q0e]⟩) ?_
          refine TabR.tabR_append HSL.out HN0.out (s := ⟨g1, m, vF L ++ [.int .i64 ((cx - px) * signI (qx - px))]⟩) (by simp) NE1.out (.tmp 39) (.tmp 54) (w.heap.size + 3) 64 3 i0 (.int .i64 0) 1 8 rfl Try.underlying64 hi0 hz0 hz1 hz2 rfl (by decide) vn m (vF L) (HOWN.out.1) (GN.out) (Nat.mul_one m).symm 1 [.int .i64 ((cx - px) * signI (qx - px))] rfl rfl (by simp [Value.oneCell']) HM63.out HMB.out HB3.out (fun r w1 hr hg hA => by obtain ⟨⟨_, q0⟩, ⟨_, q1⟩, -⟩ := hA; have q0e : r (.tmp 39) = vn := q0; obtain ⟨b, q1e, -, hb⟩ := q1; exact ⟨rfl, q0e, b, 1, q1e, one_cell hb⟩) ?_
          refine TabR.tabR_val (Rs.pre HSL.out) (vd) (fun r w1 hr hg hA => by obtain ⟨q0, -⟩ := hA; have q0e : r (.tmp 8) = vd := q0; exact ⟨rfl, by simp [go_sem, q0e]⟩) ?_
          refine TabR.tabR_val (Rs.pre HSL.out) (.pointer (some ⟨w.heap.size + 1, 0, none⟩)) (fun r w1 hr hg hA => by obtain ⟨q0, -⟩ := hA; have q0e : r (.tmp 4) = .pointer (some ⟨w.heap.size + 1, 0, none⟩) := q0; exact ⟨rfl, by simp [go_sem, q0e]⟩) ?_
          refine TabR.tabR_val (Rs.pre HSL.out) (.int .i64 qx) (fun r w1 hr hg hA => by obtain ⟨⟨_, q0⟩, -⟩ := hA; have q0e : r (.tmp 57) = .pointer (some ⟨w.heap.size + 1, 0, none⟩) := q0; have hc := CF.out w1 hg; exact ⟨rfl, by simp [go_sem, q0e, hc]⟩) ?_
          refine TabR.tabR_val (Rs.pre HSL.out) (.pointer (some ⟨w.heap.size, 0, none⟩)) (fun r w1 hr hg hA => by obtain ⟨q0, -⟩ := hA; have q0e : r (.tmp 3) = .pointer (some ⟨w.heap.size, 0, none⟩) := q0; exact ⟨rfl, by simp [go_sem, q0e]⟩) ?_
          refine TabR.tabR_val (Rs.pre HSL.out) (.int .i64 px) (fun r w1 hr hg hA => by obtain ⟨⟨_, q0⟩, -⟩ := hA; have q0e : r (.tmp 59) = .pointer (some ⟨w.heap.size, 0, none⟩) := q0; have hc := CF.out w1 hg; exact ⟨rfl, by simp [go_sem, q0e, hc]⟩) ?_
          refine TabR.tabR_val (Rs.pre HSL.out) (.int .i64 (qx - px)) (fun r w1 hr hg hA => by obtain ⟨⟨_, q0⟩, ⟨_, q1⟩, -⟩ := hA; have q0e : r (.tmp 58) = .int .i64 qx := q0; have q1e : r (.tmp 60) = .int .i64 px := q1; exact ⟨rfl, by simp [go_sem, q0e, q1e, i64w, W2.out]⟩) ?_
          refine TabR.tabR_val (Rs.pre HSL.out) (.pointer (some ⟨w.heap.size + 1, 0, none⟩)) (fun r w1 hr hg hA => by obtain ⟨q0, -⟩ := hA; have q0e : r (.tmp 4) = .pointer (some ⟨w.heap.size + 1, 0, none⟩) := q0; exact ⟨rfl, by simp [go_sem, q0e]⟩) ?_
          refine TabR.tabR_val (Rs.pre HSL.out) (.int .i64 qx) (fun r w1 hr hg hA => by obtain ⟨⟨_, q0⟩, -⟩ := hA; have q0e : r (.tmp 62) = .pointer (some ⟨w.heap.size + 1, 0, none⟩) := q0; have hc := CF.out w1 hg; exact ⟨rfl, by simp [go_sem, q0e, hc]⟩) ?_
          refine TabR.tabR_val (Rs.pre HSL.out) (.pointer (some ⟨w.heap.size, 0, none⟩)) (fun r w1 hr hg hA => by obtain ⟨q0, -⟩ := hA; have q0e : r (.tmp 3) = .pointer (some ⟨w.heap.size, 0, none⟩) := q0; exact ⟨rfl, by simp [go_sem, q0e]⟩) ?_
          refine TabR.tabR_val (Rs.pre HSL.out) (.int .i64 px) (fun r w1 hr hg hA => by obtain ⟨⟨_, q0⟩, -⟩ := hA; have q0e : r (.tmp 64) = .pointer (some ⟨w.heap.size, 0, none⟩) := q0; have hc := CF.out w1 hg; exact ⟨rfl, by simp [go_sem, q0e, hc]⟩) ?_
          refine TabR.tabR_val (Rs.pre HSL.out) (.int .i64 (qx - px)) (fun r w1 hr hg hA => by obtain ⟨⟨_, q0⟩, ⟨_, q1⟩, -⟩ := hA; have q0e : r (.tmp 63) = .int .i64 qx := q0; have q1e : r (.tmp 65) = .int .i64 px := q1; exact ⟨rfl, by simp [go_sem, q0e, q1e, i64w, W2.out]⟩) ?_
          refine TabR.tabR_call (Rs.pre HSL.out) (v := .int .i64 (signI (qx - px))) (fun w1 hg => rsign_any (qx - px) w1) (fun r w1 hr hg hA => by obtain ⟨⟨_, q0⟩, -⟩ := hA; have q0e : r (.tmp 66) = .int .i64 (qx - px) := q0; exact ⟨rfl, by simp [go_sem, hr.func, q0e]⟩) ?_
          refine TabR.tabR_val (Rs.pre HSL.out) (.int .i64 ((qx - px) * signI (qx - px))) (fun r w1 hr hg hA => by obtain ⟨⟨_, q0⟩, ⟨_, q1⟩, -⟩ := hA; have q0e : r (.tmp 61) = .int .i64 (qx - px) := q0; have q1e : r (.tmp 67) = .int .i64 (signI (qx - px)) := q1; exact ⟨rfl, by simp [go_sem, q0e, q1e, i64w, W4.out]⟩) ?_
          refine TabR.tabR_block (Rs.pre HSL.out) HN0.out (.cells #[.int .i64 ((qx - px) * signI (qx - px))] 3) (fun b => .slice (some ⟨b, 0, none⟩) 1 1) (fun r w1 hr hg hA => by obtain ⟨⟨_, q0⟩, -⟩ := hA; have q0e : r (.tmp 68) = .int .i64 ((qx - px) * signI (qx - px)) := q0; exact ⟨rfl, by simp [go_sem, q0e]⟩) ?_
          refine TabR.tabR_append HSL.out HN0.out (s := ⟨g2, m, vS L ++ [.int .i64 ((qx - px) * signI (qx - px))]⟩) (by simp) NE2.out (.tmp 56) (.tmp 69) (w.heap.size + 3) 64 3 i0 (.int .i64 0) 1 8 rfl Try.underlying64 hi0 hz0 hz1 hz2 rfl (by decide) vd m (vS L) (HOWN.out.2) (GD.out) (Nat.mul_one m).symm 1 [.int .i64 ((qx - px) * signI (qx - px))] rfl rfl (by simp [Value.oneCell']) HM63.out HMB.out HB3.out (fun r w1 hr hg hA => by obtain ⟨⟨_, q0⟩, ⟨_, q1⟩, -⟩ := hA; have q0e : r (.tmp 56) = vd := q0; obtain ⟨b, q1e, -, hb⟩ := q1; exact ⟨rfl, q0e, b, 1, q1e, one_cell hb⟩) ?_
          refine TabR.tabR_end ?_
          simp only [List.reverse_cons, List.reverse_nil, List.nil_append, List.cons_append, Out, forall_eq, forall_const, Act.put, List.setIfInBounds_toArray, List.set_cons_succ, List.set_cons_zero]
          intro wA2 hrA v1 hv1 vn2 hn2 v3 hv3 vd2 hd2
          clear hv1 hv3
          have NBA2 : Hid (NB w.heap.size w wA2 px py qx qy lx ly hx hy) := Lib.hid (NBW.out.rs ((Rs.pre HSL.out).trans ((Rs.pre HSL.out).of hg1) hrA) SGN.out)
          have NDA20 : Hid (ND w.heap.size wA2 vn2 vd2 (L ++ [(((cx - px) * signI (qx - px)), ((qx - px) * signI (qx - px)))])) := Lib.hid (ND.grown HML.out NBW.out.2.1 HGN.out HGD.out HHD.out hn2 hd2)
          clear hrA hn2 hd2 hg1 hg1' hw0 CF HB3 HOWN HN0 HSL SGN NE1 NE2 HSLB HMB HM63 HM6 HAP GN GD HGN HGD HHD hk3 HK
          obtain ⟨L2, hL2⟩ : ∃ l, l = L ++ [(((cx - px) * signI (qx - px)), ((qx - px) * signI (qx - px)))] := ⟨_, rfl⟩
          rw [← hL2] at NDA20
          have NDA2 := Lib.hid NDA20.out
          have HLL2 := Lib.hid hL2
          have HL62 : Hid (L2.length ≤ 7) := Lib.hid (by rw [hL2, List.length_append]; have := HL6.out; simp only [List.length_cons, List.length_nil]; omega)
          clear hL2 NDA20 HML
          clear W1 W2 W3 W4
          have hc0 := NBA2.out.cells.1
          have hc1 := NBA2.out.cells.2.1
          go_wp2
          exact ⟨⟨k + 1, vn2, vd2, rfl, rfl, by simp, by omega, NBA2, Lib.hid (by rw [HPS.out, HX1.out, HX2.out, List.append_nil, ← HLL2.out]; exact NDA2.out)⟩, by simp only [intOf]; omega⟩
        · have HX1 := Lib.hid (plX_ne (c := cx) ex)
          have HX2 := Lib.hid (plX_ne (c := cy) ey)
          have W1 : Hid (wrap64 (cx - px) = cx - px) := Lib.hid (w_sub IP.out.1 ICX.out)
          have W2 : Hid (wrap64 (qx - px) = qx - px) := Lib.hid (w_sub IP.out.1 IP.out.2.2.1)
          have W3 : Hid (wrap64 ((cx - px) * signI (qx - px)) = (cx - px) * signI (qx - px)) := Lib.hid (w_sign IP.out.1 ICX.out)
          have W4 : Hid (wrap64 ((qx - px) * signI (qx - px)) = (qx - px) * signI (qx - px)) := Lib.hid (w_sign IP.out.1 IP.out.2.2.1)
          go_wp2_with fail
          have HC2 := Lib.hid (NDW.out.shape)
          obtain ⟨gn, cn, gd, cd, evn, evd, -, -, hgl, hgl2, -⟩ := HC2.out
          obtain ⟨hOn, hOd, ⟨g1, eg1, hg1n⟩, ⟨g2, eg2, hg2d⟩, hHead⟩ := NDW.out
          have GN : Hid (vn.ownBlock = some gn) := Lib.hid (by rw [evn]; rfl)
          have GD : Hid (vd.ownBlock = some gd) := Lib.hid (by rw [evd]; rfl)
          have HAP := Lib.hid (NDW.out.apart GN.out GD.out)
          obtain rfl : g1 = gn := Option.some.inj (eg1.symm.trans GN.out)
          obtain rfl : g2 = gd := Option.some.inj (eg2.symm.trans GD.out)
          clear eg1 eg2 HC2
          have HGN := Lib.hid hg1n
          have HGD := Lib.hid hg2d
          have HHD := Lib.hid hHead
          clear hg1n hg2d hHead
          obtain ⟨m, hm⟩ : ∃ m, m = L.length := ⟨_, rfl⟩
          have HOWN : Hid (wb.ownsRow (w.heap.size + 3) 3 1 vn m (vF L) ∧ wb.ownsRow (w.heap.size + 3) 3 1 vd m (vS L)) := Lib.hid (by rw [hm]; exact ⟨hOn, hOd⟩)
          have HML := Lib.hid hm
          have HM6 : Hid (m ≤ 8) := Lib.hid (by rw [hm]; have := HL6.out; omega)
          have HM63 : Hid (m + 1 ≤ maxLen) := Lib.hid (by have := HM6.out; unfold maxLen; omega)
          have HMB : Hid ((m + 1) * 8 ≤ 140737488355328) := Lib.hid (by have := HM6.out; omega)
          have HSLB : Hid (∀ s ∈ ([⟨g1, m, vF L ++ [.int .i64 ((cx - px) * signI (qx - px))]⟩, ⟨g2, m, vS L ++ [.int .i64 ((qx - px) * signI (qx - px))]⟩] : List Res), s.g < wb.heap.size) := Lib.hid (by intro s hs; simp only [List.mem_cons, List.not_mem_nil, or_false] at hs; rcases hs with rfl | rfl <;> assumption)
          have NE1 : Hid (∀ s' ∈ ([⟨g1, m, vF L ++ [.int .i64 ((cx - px) * signI (qx - px))]⟩, ⟨g2, m, vS L ++ [.int .i64 ((qx - px) * signI (qx - px))]⟩] : List Res), s' ≠ ⟨g1, m, vF L ++ [.int .i64 ((cx - px) * signI (qx - px))]⟩ → s'.g ≠ g1) := Lib.hid (by intro s hs hne; simp only [List.mem_cons, List.not_mem_nil, or_false] at hs; rcases hs with rfl | rfl; exact absurd rfl hne; exact fun e => HAP.out e.symm)
          have NE2 : Hid (∀ s' ∈ ([⟨g1, m, vF L ++ [.int .i64 ((cx - px) * signI (qx - px))]⟩, ⟨g2, m, vS L ++ [.int .i64 ((qx - px) * signI (qx - px))]⟩] : List Res), s' ≠ ⟨g2, m, vS L ++ [.int .i64 ((qx - px) * signI (qx - px))]⟩ → s'.g ≠ g2) := Lib.hid (by intro s hs hne; simp only [List.mem_cons, List.not_mem_nil, or_false] at hs; rcases hs with rfl | rfl; exact HAP.out; exact absurd rfl hne)
          clear hm hOn hOd hgl hgl2
          have SGN : Hid (∀ s ∈ ([⟨g1, m, vF L ++ [.int .i64 ((cx - px) * signI (qx - px))]⟩, ⟨g2, m, vS L ++ [.int .i64 ((qx - px) * signI (qx - px))]⟩] : List Res), s.g = w.heap.size + 3 ∨ s.g = w.heap.size + 4 ∨ w.heap.size + 7 ≤ s.g) := Lib.hid (by intro s hs; have h1 := HGN.out; have h2 := HGD.out; simp only [List.mem_cons, List.not_mem_nil, or_false] at hs; rcases hs with rfl | rfl; exact .elim h1 .inl (fun h => .inr (.inr h)); exact .elim h2 (fun h => .inr (.inl h)) (fun h => .inr (.inr h)))
          have CF : Hid (∀ w', Rs [⟨g1, m, vF L ++ [.int .i64 ((cx - px) * signI (qx - px))]⟩, ⟨g2, m, vS L ++ [.int .i64 ((qx - px) * signI (qx - px))]⟩] wb w' → NB w.heap.size w w' px py qx qy lx ly hx hy) := Lib.hid (fun w' hr => NBW.out.rs hr SGN.out)
          clear evn evd
          refine TabR.wp_region_tabR (Rs.pre HSLB.out) 32 (by kernel_rfl) (by kernel_rfl) ?_
          intro w0 hw0 hg1 hg1'
          have HSL : Hid (∀ s ∈ ([⟨g1, m, vF L ++ [.int .i64 ((cx - px) * signI (qx - px))]⟩, ⟨g2, m, vS L ++ [.int .i64 ((qx - px) * signI (qx - px))]⟩] : List Res), s.g < wb.heap.size) := HSLB
          have HN0 : Hid (wb.heap.size ≤ w0.heap.size) := Lib.hid hg1.size
          have HOWN : Hid (w0.ownsRow (w.heap.size + 3) 3 1 vn m (vF L) ∧ w0.ownsRow (w.heap.size + 3) 3 1 vd m (vS L)) := Lib.hid ⟨ownsRow_later HOWN.out.1 hg1, ownsRow_later HOWN.out.2 hg1⟩
          have HB3 : Hid (w.heap.size + 3 ≤ w0.heap.size) := Lib.hid (by have := NBW.out.2.1; have := hg1.size; omega)
          have HK := Lib.hid hk2
          have hk3 : ¬ ((2 : Int) ≤ (k : Int)) := by omega
          have CF : Hid (∀ w', Rs [⟨g1, m, vF L ++ [.int .i64 ((cx - px) * signI (qx - px))]⟩, ⟨g2, m, vS L ++ [.int .i64 ((qx - px) * signI (qx - px))]⟩] w0 w' → _) := Lib.hid (fun w' hr => (CF.out w' ((Rs.pre HSL.out).trans ((Rs.pre HSL.out).of hg1) hr)).cellsK HK.out HCX.out HCY.out)
          simp only [List.take_succ_cons, List.take_zero, List.drop_succ_cons, List.drop_zero]
          refine TabR.tabR_val (Rs.pre HSL.out) (vn) (fun r w1 hr hg hA => by obtain ⟨q0, -⟩ := hA; have q0e : r (.tmp 7) = vn := q0; exact ⟨rfl, by simp [go_sem, q0e]⟩) ?_
          refine TabR.tabR_val (Rs.pre HSL.out) (.slice (some ⟨w.heap.size + 5, 0, none⟩) 2 2) (fun r w1 hr hg hA => by obtain ⟨q0, -⟩ := hA; have q0e : r (.tmp 9) = .slice (some ⟨w.heap.size + 5, 0, none⟩) 2 2 := q0; exact ⟨rfl, by simp [go_sem, q0e]⟩) ?_
          refine TabR.tabR_val (Rs.pre HSL.out) (.int .i64 (k : Int)) (fun r w1 hr hg hA => by obtain ⟨q0, -⟩ := hA; have q0e : r (.tmp 11) = .int .i64 (k : Int) := q0; exact ⟨rfl, by simp [go_sem, q0e]⟩) ?_
          refine TabR.tabR_val (Rs.pre HSL.out) (.pointer (some ⟨w.heap.size + 5, k, none⟩)) (fun r w1 hr hg hA => by obtain ⟨⟨_, q0⟩, ⟨_, q1⟩, -⟩ := hA; have q0e : r (.tmp 40) = .slice (some ⟨w.heap.size + 5, 0, none⟩) 2 2 := q0; have q1e : r (.tmp 41) = .int .i64 (k : Int) := q1; exact ⟨rfl, by simp [go_sem, q0e, q1e, hk3]⟩) ?_
          refine TabR.tabR_val (Rs.pre HSL.out) (.int .i64 cx) (fun r w1 hr hg hA => by obtain ⟨⟨_, q0⟩, -⟩ := hA; have q0e : r (.tmp 42) = .pointer (some ⟨w.heap.size + 5, k, none⟩) := q0; have hc := CF.out w1 hg; exact ⟨rfl, by simp [go_sem, q0e, hc]⟩) ?_
          refine TabR.tabR_val (Rs.pre HSL.out) (.pointer (some ⟨w.heap.size, 0, none⟩)) (fun r w1 hr hg hA => by obtain ⟨q0, -⟩ := hA; have q0e : r (.tmp 3) = .pointer (some ⟨w.heap.size, 0, none⟩) := q0; exact ⟨rfl, by simp [go_sem, q0e]⟩) ?_
          refine TabR.tabR_val (Rs.pre HSL.out) (.int .i64 px) (fun r w1 hr hg hA => by obtain ⟨⟨_, q0⟩, -⟩ := hA; have q0e : r (.tmp 44) = .pointer (some ⟨w.heap.size, 0, none⟩) := q0; have hc := CF.out w1 hg; exact ⟨rfl, by simp [go_sem, q0e, hc]⟩) ?_
          refine TabR.tabR_val (Rs.pre HSL.out) (.int .i64 (cx - px)) (fun r w1 hr hg hA => by obtain ⟨⟨_, q0⟩, ⟨_, q1⟩, -⟩ := hA; have q0e : r (.tmp 43) = .int .i64 cx := q0; have q1e : r (.tmp 45) = .int .i64 px := q1; exact ⟨rfl, by simp [go_sem, q0e, q1e, i64w, W1.out]⟩) ?_
          refine TabR.tabR_val (Rs.pre HSL.out) (.pointer (some ⟨w.heap.size + 1, 0, none⟩)) (fun r w1 hr hg hA => by obtain ⟨q0, -⟩ := hA; have q0e : r (.tmp 4) = .pointer (some ⟨w.heap.size + 1, 0, none⟩) := q0; exact ⟨rfl, by simp [go_sem, q0e]⟩) ?_
          refine TabR.tabR_val (Rs.pre HSL.out) (.int .i64 qx) (fun r w1 hr hg hA => by obtain ⟨⟨_, q0⟩, -⟩ := hA; have q0e : r (.tmp 47) = .pointer (some ⟨w.heap.size + 1, 0, none⟩) := q0; have hc := CF.out w1 hg; exact ⟨rfl, by simp [go_sem, q0e, hc]⟩) ?_
          refine TabR.tabR_val (Rs.pre HSL.out) (.pointer (some ⟨w.heap.size, 0, none⟩)) (fun r w1 hr hg hA => by obtain ⟨q0, -⟩ := hA; have q0e : r (.tmp 3) = .pointer (some ⟨w.heap.size, 0, none⟩) := q0; exact ⟨rfl, by simp [go_sem, q0e]⟩) ?_
          refine TabR.tabR_val (Rs.pre HSL.out) (.int .i64 px) (fun r w1 hr hg hA => by obtain ⟨⟨_, q0⟩, -⟩ := hA; have q0e : r (.tmp 49) = .pointer (some ⟨w.heap.size, 0, none⟩) := q0; have hc := CF.out w1 hg; exact ⟨rfl, by simp [go_sem, q0e, hc]⟩) ?_
          refine TabR.tabR_val (Rs.pre HSL.out) (.int .i64 (qx - px)) (fun r w1 hr hg hA => by obtain ⟨⟨_, q0⟩, ⟨_, q1⟩, -⟩ := hA; have q0e : r (.tmp 48) = .int .i64 qx := q0; have q1e : r (.tmp 50) = .int .i64 px := q1; exact ⟨rfl, by simp [go_sem, q0e, q1e, i64w, W2.out]⟩) ?_
          refine TabR.tabR_call (Rs.pre HSL.out) (v := .int .i64 (signI (qx - px))) (fun w1 hg => rsign_any (qx - px) w1) (fun r w1 hr hg hA => by obtain ⟨⟨_, q0⟩, -⟩ := hA; have q0e : r (.tmp 51) = .int .i64 (qx - px) := q0; exact ⟨rfl, by simp [go_sem, hr.func, q0e]⟩) ?_
          refine TabR.tabR_val (Rs.pre HSL.out) (.int .i64 ((cx - px) * signI (qx - px))) (fun r w1 hr hg hA => by obtain ⟨⟨_, q0⟩, ⟨_, q1⟩, -⟩ := hA; have q0e : r (.tmp 46) = .int .i64 (cx - px) := q0; have q1e : r (.tmp 52) = .int .i64 (signI (qx - px)) := q1; exact ⟨rfl, by simp [go_sem, q0e, q1e, i64w, W3.out]⟩) ?_
          refine TabR.tabR_block (Rs.pre HSL.out) HN0.out (.cells #[.int .i64 ((cx - px) * signI (qx - px))] 3) (fun b => .slice (some ⟨b, 0, none⟩) 1 1) (fun r w1 hr hg hA => by obtain ⟨⟨_, q0⟩, -⟩ := hA; have q0e : r (.tmp 53) = .int .i64 ((cx - px) * signI (qx - px)) := q0; exact ⟨rfl, by simp [go_sem, q0e]⟩) ?_
          refine TabR.tabR_append HSL.out HN0.out (s := ⟨g1, m, vF L ++ [.int .i64 ((cx - px) * signI (qx - px))]⟩) (by simp) NE1.out (.tmp 39) (.tmp 54) (w.heap.size + 3) 64 3 i0 (.int .i64 0) 1 8 rfl Try.underlying64 hi0 hz0 hz1 hz2 rfl (by decide) vn m (vF L) (HOWN.out.1) (GN.out) (Nat.mul_one m).symm 1 [.int .i64 ((cx - px) * signI (qx - px))] rfl rfl (by simp [Value.oneCell']) HM63.out HMB.out HB3.out (fun r w1 hr hg hA => by obtain ⟨⟨_, q0⟩, ⟨_, q1⟩, -⟩ := hA; have q0e : r (.tmp 39) = vn := q0; obtain ⟨b, q1e, -, hb⟩ := q1; exact ⟨rfl, q0e, b, 1, q1e, one_cell hb⟩) ?_
          refine TabR.tabR_val (Rs.pre HSL.out) (vd) (fun r w1 hr hg hA => by obtain ⟨q0, -⟩ := hA; have q0e : r (.tmp 8) = vd := q0; exact ⟨rfl, by simp [go_sem, q0e]⟩) ?_
          refine TabR.tabR_val (Rs.pre HSL.out) (.pointer (some ⟨w.heap.size + 1, 0, none⟩)) (fun r w1 hr hg hA => by obtain ⟨q0, -⟩ := hA; have q0e : r (.tmp 4) = .pointer (some ⟨w.heap.size + 1, 0, none⟩) := q0; exact ⟨rfl, by simp [go_sem, q0e]⟩) ?_
          refine TabR.tabR_val (Rs.pre HSL.out) (.int .i64 qx) (fun r w1 hr hg hA => by obtain ⟨⟨_, q0⟩, -⟩ := hA; have q0e : r (.tmp 57) = .pointer (some ⟨w.heap.size + 1, 0, none⟩) := q0; have hc := CF.out w1 hg; exact ⟨rfl, by simp [go_sem, q0e, hc]⟩) ?_
          refine TabR.tabR_val (Rs.pre HSL.out) (.pointer (some ⟨w.heap.size, 0, none⟩)) (fun r w1 hr hg hA => by obtain ⟨q0, -⟩ := hA; have q0e : r (.tmp 3) = .pointer (some ⟨w.heap.size, 0, none⟩) := q0; exact ⟨rfl, by simp [go_sem, q0e]⟩) ?_
          refine TabR.tabR_val (Rs.pre HSL.out) (.int .i64 px) (fun r w1 hr hg hA => by obtain ⟨⟨_, q0⟩, -⟩ := hA; have q0e : r (.tmp 59) = .pointer (some ⟨w.heap.size, 0, none⟩) := q0; have hc := CF.out w1 hg; exact ⟨rfl, by simp [go_sem, q0e, hc]⟩) ?_
          refine TabR.tabR_val (Rs.pre HSL.out) (.int .i64 (qx - px)) (fun r w1 hr hg hA => by obtain ⟨⟨_, q0⟩, ⟨_, q1⟩, -⟩ := hA; have q0e : r (.tmp 58) = .int .i64 qx := q0; have q1e : r (.tmp 60) = .int .i64 px := q1; exact ⟨rfl, by simp [go_sem, q0e, q1e, i64w, W2.out]⟩) ?_
          refine TabR.tabR_val (Rs.pre HSL.out) (.pointer (some ⟨w.heap.size + 1, 0, none⟩)) (fun r w1 hr hg hA => by obtain ⟨q0, -⟩ := hA; have q0e : r (.tmp 4) = .pointer (some ⟨w.heap.size + 1, 0, none⟩) := q0; exact ⟨rfl, by simp [go_sem, q0e]⟩) ?_
          refine TabR.tabR_val (Rs.pre HSL.out) (.int .i64 qx) (fun r w1 hr hg hA => by obtain ⟨⟨_, q0⟩, -⟩ := hA; have q0e : r (.tmp 62) = .pointer (some ⟨w.heap.size + 1, 0, none⟩) := q0; have hc := CF.out w1 hg; exact ⟨rfl, by simp [go_sem, q0e, hc]⟩) ?_
          refine TabR.tabR_val (Rs.pre HSL.out) (.pointer (some ⟨w.heap.size, 0, none⟩)) (fun r w1 hr hg hA => by obtain ⟨q0, -⟩ := hA; have q0e : r (.tmp 3) = .pointer (some ⟨w.heap.size, 0, none⟩) := q0; exact ⟨rfl, by simp [go_sem, q0e]⟩) ?_
          refine TabR.tabR_val (Rs.pre HSL.out) (.int .i64 px) (fun r w1 hr hg hA => by obtain ⟨⟨_, q0⟩, -⟩ := hA; have q0e : r (.tmp 64) = .pointer (some ⟨w.heap.size, 0, none⟩) := q0; have hc := CF.out w1 hg; exact ⟨rfl, by simp [go_sem, q0e, hc]⟩) ?_
          refine TabR.tabR_val (Rs.pre HSL.out) (.int .i64 (qx - px)) (fun r w1 hr hg hA => by obtain ⟨⟨_, q0⟩, ⟨_, q1⟩, -⟩ := hA; have q0e : r (.tmp 63) = .int .i64 qx := q0; have q1e : r (.tmp 65) = .int .i64 px := q1; exact ⟨rfl, by simp [go_sem, q0e, q1e, i64w, W2.out]⟩) ?_
          refine TabR.tabR_call (Rs.pre HSL.out) (v := .int .i64 (signI (qx - px))) (fun w1 hg => rsign_any (qx - px) w1) (fun r w1 hr hg hA => by obtain ⟨⟨_, q0⟩, -⟩ := hA; have q0e : r (.tmp 66) = .int .i64 (qx - px) := q0; exact ⟨rfl, by simp [go_sem, hr.func, q0e]⟩) ?_
          refine TabR.tabR_val (Rs.pre HSL.out) (.int .i64 ((qx - px) * signI (qx - px))) (fun r w1 hr hg hA => by obtain ⟨⟨_, q0⟩, ⟨_, q1⟩, -⟩ := hA; have q0e : r (.tmp 61) = .int .i64 (qx - px) := q0; have q1e : r (.tmp 67) = .int .i64 (signI (qx - px)) := q1; exact ⟨rfl, by simp [go_sem, q0e, q1e, i64w, W4.out]⟩) ?_
          refine TabR.tabR_block (Rs.pre HSL.out) HN0.out (.cells #[.int .i64 ((qx - px) * signI (qx - px))] 3) (fun b => .slice (some ⟨b, 0, none⟩) 1 1) (fun r w1 hr hg hA => by obtain ⟨⟨_, q0⟩, -⟩ := hA; have q0e : r (.tmp 68) = .int .i64 ((qx - px) * signI (qx - px)) := q0; exact ⟨rfl, by simp [go_sem, q0e]⟩) ?_
          refine TabR.tabR_append HSL.out HN0.out (s := ⟨g2, m, vS L ++ [.int .i64 ((qx - px) * signI (qx - px))]⟩) (by simp) NE2.out (.tmp 56) (.tmp 69) (w.heap.size + 3) 64 3 i0 (.int .i64 0) 1 8 rfl Try.underlying64 hi0 hz0 hz1 hz2 rfl (by decide) vd m (vS L) (HOWN.out.2) (GD.out) (Nat.mul_one m).symm 1 [.int .i64 ((qx - px) * signI (qx - px))] rfl rfl (by simp [Value.oneCell']) HM63.out HMB.out HB3.out (fun r w1 hr hg hA => by obtain ⟨⟨_, q0⟩, ⟨_, q1⟩, -⟩ := hA; have q0e : r (.tmp 56) = vd := q0; obtain ⟨b, q1e, -, hb⟩ := q1; exact ⟨rfl, q0e, b, 1, q1e, one_cell hb⟩) ?_
          refine TabR.tabR_end ?_
          simp only [List.reverse_cons, List.reverse_nil, List.nil_append, List.cons_append, Out, forall_eq, forall_const, Act.put, List.setIfInBounds_toArray, List.set_cons_succ, List.set_cons_zero]
          intro wA2 hrA v1 hv1 vn2 hn2 v3 hv3 vd2 hd2
          clear hv1 hv3
          have NBA2 : Hid (NB w.heap.size w wA2 px py qx qy lx ly hx hy) := Lib.hid (NBW.out.rs ((Rs.pre HSL.out).trans ((Rs.pre HSL.out).of hg1) hrA) SGN.out)
          have NDA20 : Hid (ND w.heap.size wA2 vn2 vd2 (L ++ [(((cx - px) * signI (qx - px)), ((qx - px) * signI (qx - px)))])) := Lib.hid (ND.grown HML.out NBW.out.2.1 HGN.out HGD.out HHD.out hn2 hd2)
          clear hrA hn2 hd2 hg1 hg1' hw0 CF HB3 HOWN HN0 HSL SGN NE1 NE2 HSLB HMB HM63 HM6 HAP GN GD HGN HGD HHD hk3 HK
          obtain ⟨L2, hL2⟩ : ∃ l, l = L ++ [(((cx - px) * signI (qx - px)), ((qx - px) * signI (qx - px)))] := ⟨_, rfl⟩
          rw [← hL2] at NDA20
          have NDA2 := Lib.hid NDA20.out
          have HLL2 := Lib.hid hL2
          have HL62 : Hid (L2.length ≤ 7) := Lib.hid (by rw [hL2, List.length_append]; have := HL6.out; simp only [List.length_cons, List.length_nil]; omega)
          clear hL2 NDA20 HML
          clear W1 W2 W3 W4
          have hc0 := NBA2.out.cells.1
          have hc1 := NBA2.out.cells.2.1
          have W1 : Hid (wrap64 (cy - py) = cy - py) := Lib.hid (w_sub IP.out.2.1 ICY.out)
          have W2 : Hid (wrap64 (qy - py) = qy - py) := Lib.hid (w_sub IP.out.2.1 IP.out.2.2.2.1)
          have W3 : Hid (wrap64 ((cy - py) * signI (qy - py)) = (cy - py) * signI (qy - py)) := Lib.hid (w_sign IP.out.2.1 ICY.out)
          have W4 : Hid (wrap64 ((qy - py) * signI (qy - py)) = (qy - py) * signI (qy - py)) := Lib.hid (w_sign IP.out.2.1 IP.out.2.2.2.1)
          go_wp2_with fail
          have HC2 := Lib.hid (NDA2.out.shape)
          obtain ⟨gn, cn, gd, cd, evn, evd, -, -, hgl, hgl2, -⟩ := HC2.out
          obtain ⟨hOn, hOd, ⟨g1, eg1, hg1n⟩, ⟨g2, eg2, hg2d⟩, hHead⟩ := NDA2.out
          have GN : Hid (vn2.ownBlock = some gn) := Lib.hid (by rw [evn]; rfl)
          have GD : Hid (vd2.ownBlock = some gd) := Lib.hid (by rw [evd]; rfl)
          have HAP := Lib.hid (NDA2.out.apart GN.out GD.out)
          obtain rfl : g1 = gn := Option.some.inj (eg1.symm.trans GN.out)
          obtain rfl : g2 = gd := Option.some.inj (eg2.symm.trans GD.out)
          clear eg1 eg2 HC2
          have HGN := Lib.hid hg1n
          have HGD := Lib.hid hg2d
          have HHD := Lib.hid hHead
          clear hg1n hg2d hHead
          obtain ⟨m, hm⟩ : ∃ m, m = L2.length := ⟨_, rfl⟩
          have HOWN : Hid (wA2.ownsRow (w.heap.size + 3) 3 1 vn2 m (vF L2) ∧ wA2.ownsRow (w.heap.size + 3) 3 1 vd2 m (vS L2)) := Lib.hid (by rw [hm]; exact ⟨hOn, hOd⟩)
          have HML := Lib.hid hm
          have HM6 : Hid (m ≤ 8) := Lib.hid (by rw [hm]; have := HL62.out; omega)
          have HM63 : Hid (m + 1 ≤ maxLen) := Lib.hid (by have := HM6.out; unfold maxLen; omega)
          have HMB : Hid ((m + 1) * 8 ≤ 140737488355328) := Lib.hid (by have := HM6.out; omega)
          have HSLB : Hid (∀ s ∈ ([⟨g1, m, vF L2 ++ [.int .i64 ((cy - py) * signI (qy - py))]⟩, ⟨g2, m, vS L2 ++ [.int .i64 ((qy - py) * signI (qy - py))]⟩] : List Res), s.g < wA2.heap.size) := Lib.hid (by intro s hs; simp only [List.mem_cons, List.not_mem_nil, or_false] at hs; rcases hs with rfl | rfl <;> assumption)
          have NE1 : Hid (∀ s' ∈ ([⟨g1, m, vF L2 ++ [.int .i64 ((cy - py) * signI (qy - py))]⟩, ⟨g2, m, vS L2 ++ [.int .i64 ((qy - py) * signI (qy - py))]⟩] : List Res), s' ≠ ⟨g1, m, vF L2 ++ [.int .i64 ((cy - py) * signI (qy - py))]⟩ → s'.g ≠ g1) := Lib.hid (by intro s hs hne; simp only [List.mem_cons, List.not_mem_nil, or_false] at hs; rcases hs with rfl | rfl; exact absurd rfl hne; exact fun e => HAP.out e.symm)
          have NE2 : Hid (∀ s' ∈ ([⟨g1, m, vF L2 ++ [.int .i64 ((cy - py) * signI (qy - py))]⟩, ⟨g2, m, vS L2 ++ [.int .i64 ((qy - py) * signI (qy - py))]⟩] : List Res), s' ≠ ⟨g2, m, vS L2 ++ [.int .i64 ((qy - py) * signI (qy - py))]⟩ → s'.g ≠ g2) := Lib.hid (by intro s hs hne; simp only [List.mem_cons, List.not_mem_nil, or_false] at hs; rcases hs with rfl | rfl; exact HAP.out; exact absurd rfl hne)
          clear hm hOn hOd hgl hgl2
          have SGN : Hid (∀ s ∈ ([⟨g1, m, vF L2 ++ [.int .i64 ((cy - py) * signI (qy - py))]⟩, ⟨g2, m, vS L2 ++ [.int .i64 ((qy - py) * signI (qy - py))]⟩] : List Res), s.g = w.heap.size + 3 ∨ s.g = w.heap.size + 4 ∨ w.heap.size + 7 ≤ s.g) := Lib.hid (by intro s hs; have h1 := HGN.out; have h2 := HGD.out; simp only [List.mem_cons, List.not_mem_nil, or_false] at hs; rcases hs with rfl | rfl; exact .elim h1 .inl (fun h => .inr (.inr h)); exact .elim h2 (fun h => .inr (.inl h)) (fun h => .inr (.inr h)))
          have CF : Hid (∀ w', Rs [⟨g1, m, vF L2 ++ [.int .i64 ((cy - py) * signI (qy - py))]⟩, ⟨g2, m, vS L2 ++ [.int .i64 ((qy - py) * signI (qy - py))]⟩] wA2 w' → NB w.heap.size w w' px py qx qy lx ly hx hy) := Lib.hid (fun w' hr => NBA2.out.rs hr SGN.out)
          clear evn evd
          refine TabR.wp_region_tabR (Rs.pre HSLB.out) 32 (by kernel_rfl) (by kernel_rfl) ?_
          intro w0 hw0 hg1 hg1'
          have HSL : Hid (∀ s ∈ ([⟨g1, m, vF L2 ++ [.int .i64 ((cy - py) * signI (qy - py))]⟩, ⟨g2, m, vS L2 ++ [.int .i64 ((qy - py) * signI (qy - py))]⟩] : List Res), s.g < wA2.heap.size) := HSLB
          have HN0 : Hid (wA2.heap.size ≤ w0.heap.size) := Lib.hid hg1.size
          have HOWN : Hid (w0.ownsRow (w.heap.size + 3) 3 1 vn2 m (vF L2) ∧ w0.ownsRow (w.heap.size + 3) 3 1 vd2 m (vS L2)) := Lib.hid ⟨ownsRow_later HOWN.out.1 hg1, ownsRow_later HOWN.out.2 hg1⟩
          have HB3 : Hid (w.heap.size + 3 ≤ w0.heap.size) := Lib.hid (by have := NBA2.out.2.1; have := hg1.size; omega)
          have HK := Lib.hid hk2
          have hk3 : ¬ ((2 : Int) ≤ (k : Int)) := by omega
          have CF : Hid (∀ w', Rs [⟨g1, m, vF L2 ++ [.int .i64 ((cy - py) * signI (qy - py))]⟩, ⟨g2, m, vS L2 ++ [.int .i64 ((qy - py) * signI (qy - py))]⟩] w0 w' → _) := Lib.hid (fun w' hr => (CF.out w' ((Rs.pre HSL.out).trans ((Rs.pre HSL.out).of hg1) hr)).cellsK HK.out HCX.out HCY.out)
          simp only [List.take_succ_cons, List.take_zero, List.drop_succ_cons, List.drop_zero]
          refine TabR.tabR_val (Rs.pre HSL.out) (vn2) (fun r w1 hr hg hA => by obtain ⟨q0, -⟩ := hA; have q0e : r (.tmp 7) = vn2 := q0; exact ⟨rfl, by simp [go_sem, q0e]⟩) ?_
          refine TabR.tabR_val (Rs.pre HSL.out) (.slice (some ⟨w.heap.size + 6, 0, none⟩) 2 2) (fun r w1 hr hg hA => by obtain ⟨q0, -⟩ := hA; have q0e : r (.tmp 10) = .slice (some ⟨w.heap.size + 6, 0, none⟩) 2 2 := q0; exact ⟨rfl, by simp [go_sem, q0e]⟩) ?_
          refine TabR.tabR_val (Rs.pre HSL.out) (.int .i64 (k : Int)) (fun r w1 hr hg hA => by obtain ⟨q0, -⟩ := hA; have q0e : r (.tmp 11) = .int .i64 (k : Int) := q0; exact ⟨rfl, by simp [go_sem, q0e]⟩) ?_
          refine TabR.tabR_val (Rs.pre HSL.out) (.pointer (some ⟨w.heap.size + 6, k, none⟩)) (fun r w1 hr hg hA => by obtain ⟨⟨_, q0⟩, ⟨_, q1⟩, -⟩ := hA; have q0e : r (.tmp 77) = .slice (some ⟨w.heap.size + 6, 0, none⟩) 2 2 := q0; have q1e : r (.tmp 78) = .int .i64 (k : Int) := q1; exact ⟨rfl, by simp [go_sem, q0e, q1e, hk3]⟩) ?_
          refine TabR.tabR_val (Rs.pre HSL.out) (.int .i64 cy) (fun r w1 hr hg hA => by obtain ⟨⟨_, q0⟩, -⟩ := hA; have q0e : r (.tmp 79) = .pointer (some ⟨w.heap.size + 6, k, none⟩) := q0; have hc := CF.out w1 hg; exact ⟨rfl, by simp [go_sem, q0e, hc]⟩) ?_
          refine TabR.tabR_val (Rs.pre HSL.out) (.pointer (some ⟨w.heap.size, 1, none⟩)) (fun r w1 hr hg hA => by obtain ⟨q0, -⟩ := hA; have q0e : r (.tmp 3) = .pointer (some ⟨w.heap.size, 0, none⟩) := q0; exact ⟨rfl, by simp [go_sem, q0e]⟩) ?_
          refine TabR.tabR_val (Rs.pre HSL.out) (.int .i64 py) (fun r w1 hr hg hA => by obtain ⟨⟨_, q0⟩, -⟩ := hA; have q0e : r (.tmp 81) = .pointer (some ⟨w.heap.size, 1, none⟩) := q0; have hc := CF.out w1 hg; exact ⟨rfl, by simp [go_sem, q0e, hc]⟩) ?_
          refine TabR.tabR_val (Rs.pre HSL.out) (.int .i64 (cy - py)) (fun r w1 hr hg hA => by obtain ⟨⟨_, q0⟩, ⟨_, q1⟩, -⟩ := hA; have q0e : r (.tmp 80) = .int .i64 cy := q0; have q1e : r (.tmp 82) = .int .i64 py := q1; exact ⟨rfl, by simp [go_sem, q0e, q1e, i64w, W1.out]⟩) ?_
          refine TabR.tabR_val (Rs.pre HSL.out) (.pointer (some ⟨w.heap.size + 1, 1, none⟩)) (fun r w1 hr hg hA => by obtain ⟨q0, -⟩ := hA; have q0e : r (.tmp 4) = .pointer (some ⟨w.heap.size + 1, 0, none⟩) := q0; exact ⟨rfl, by simp [go_sem, q0e]⟩) ?_
          refine TabR.tabR_val (Rs.pre HSL.out) (.int .i64 qy) (fun r w1 hr hg hA => by obtain ⟨⟨_, q0⟩, -⟩ := hA; have q0e : r (.tmp 84) = .pointer (some ⟨w.heap.size + 1, 1, none⟩) := q0; have hc := CF.out w1 hg; exact ⟨rfl, by simp [go_sem, q0e, hc]⟩) ?_
          refine TabR.tabR_val (Rs.pre HSL.out) (.pointer (some ⟨w.heap.size, 1, none⟩)) (fun r w1 hr hg hA => by obtain ⟨q0, -⟩ := hA; have q0e : r (.tmp 3) = .pointer (some ⟨w.heap.size, 0, none⟩) := q0; exact ⟨rfl, by simp [go_sem, q0e]⟩) ?_
          refine TabR.tabR_val (Rs.pre HSL.out) (.int .i64 py) (fun r w1 hr hg hA => by obtain ⟨⟨_, q0⟩, -⟩ := hA; have q0e : r (.tmp 86) = .pointer (some ⟨w.heap.size, 1, none⟩) := q0; have hc := CF.out w1 hg; exact ⟨rfl, by simp [go_sem, q0e, hc]⟩) ?_
          refine TabR.tabR_val (Rs.pre HSL.out) (.int .i64 (qy - py)) (fun r w1 hr hg hA => by obtain ⟨⟨_, q0⟩, ⟨_, q1⟩, -⟩ := hA; have q0e : r (.tmp 85) = .int .i64 qy := q0; have q1e : r (.tmp 87) = .int .i64 py := q1; exact ⟨rfl, by simp [go_sem, q0e, q1e, i64w, W2.out]⟩) ?_
          refine TabR.tabR_call (Rs.pre HSL.out) (v := .int .i64 (signI (qy - py))) (fun w1 hg => rsign_any (qy - py) w1) (fun r w1 hr hg hA => by obtain ⟨⟨_, q0⟩, -⟩ := hA; have q0e : r (.tmp 88) = .int .i64 (qy - py) := q0; exact ⟨rfl, by simp [go_sem, hr.func, q0e]⟩) ?_
          refine TabR.tabR_val (Rs.pre HSL.out) (.int .i64 ((cy - py) * signI (qy - py))) (fun r w1 hr hg hA => by obtain ⟨⟨_, q0⟩, ⟨_, q1⟩, -⟩ := hA; have q0e : r (.tmp 83) = .int .i64 (cy - py) := q0; have q1e : r (.tmp 89) = .int .i64 (signI (qy - py)) := q1; exact ⟨rfl, by simp [go_sem, q0e, q1e, i64w, W3.out]⟩) ?_
          refine TabR.tabR_block (Rs.pre HSL.out) HN0.out (.cells #[.int .i64 ((cy - py) * signI (qy - py))] 3) (fun b => .slice (some ⟨b, 0, none⟩) 1 1) (fun r w1 hr hg hA => by obtain ⟨⟨_, q0⟩, -⟩ := hA; have q0e : r (.tmp 90) = .int .i64 ((cy - py) * signI (qy - py)) := q0; exact ⟨rfl, by simp [go_sem, q0e]⟩) ?_
          refine TabR.tabR_append HSL.out HN0.out (s := ⟨g1, m, vF L2 ++ [.int .i64 ((cy - py) * signI (qy - py))]⟩) (by simp) NE1.out (.tmp 76) (.tmp 91) (w.heap.size + 3) 64 3 i0 (.int .i64 0) 1 8 rfl Try.underlying64 hi0 hz0 hz1 hz2 rfl (by decide) vn2 m (vF L2) (HOWN.out.1) (GN.out) (Nat.mul_one m).symm 1 [.int .i64 ((cy - py) * signI (qy - py))] rfl rfl (by simp [Value.oneCell']) HM63.out HMB.out HB3.out (fun r w1 hr hg hA => by obtain ⟨⟨_, q0⟩, ⟨_, q1⟩, -⟩ := hA; have q0e : r (.tmp 76) = vn2 := q0; obtain ⟨b, q1e, -, hb⟩ := q1; exact ⟨rfl, q0e, b, 1, q1e, one_cell hb⟩) ?_
          refine TabR.tabR_val (Rs.pre HSL.out) (vd2) (fun r w1 hr hg hA => by obtain ⟨q0, -⟩ := hA; have q0e : r (.tmp 8) = vd2 := q0; exact ⟨rfl, by simp [go_sem, q0e]⟩) ?_
          refine TabR.tabR_val (Rs.pre HSL.out) (.pointer (some ⟨w.heap.size + 1, 1, none⟩)) (fun r w1 hr hg hA => by obtain ⟨q0, -⟩ := hA; have q0e : r (.tmp 4) = .pointer (some ⟨w.heap.size + 1, 0, none⟩) := q0; exact ⟨rfl, by simp [go_sem, q0e]⟩) ?_
          refine TabR.tabR_val (Rs.pre HSL.out) (.int .i64 qy) (fun r w1 hr hg hA => by obtain ⟨⟨_, q0⟩, -⟩ := hA; have q0e : r (.tmp 94) = .pointer (some ⟨w.heap.size + 1, 1, none⟩) := q0; have hc := CF.out w1 hg; exact ⟨rfl, by simp [go_sem, q0e, hc]⟩) ?_
          refine TabR.tabR_val (Rs.pre HSL.out) (.pointer (some ⟨w.heap.size, 1, none⟩)) (fun r w1 hr hg hA => by obtain ⟨q0, -⟩ := hA; have q0e : r (.tmp 3) = .pointer (some ⟨w.heap.size, 0, none⟩) := q0; exact ⟨rfl, by simp [go_sem, q0e]⟩) ?_
          refine TabR.tabR_val (Rs.pre HSL.out) (.int .i64 py) (fun r w1 hr hg hA => by obtain ⟨⟨_, q0⟩, -⟩ := hA; have q0e : r (.tmp 96) = .pointer (some ⟨w.heap.size, 1, none⟩) := q0; have hc := CF.out w1 hg; exact ⟨rfl, by simp [go_sem, q0e, hc]⟩) ?_
          refine TabR.tabR_val (Rs.pre HSL.out) (.int .i64 (qy - py)) (fun r w1 hr hg hA => by obtain ⟨⟨_, q0⟩, ⟨_, q1⟩, -⟩ := hA; have q0e : r (.tmp 95) = .int .i64 qy := q0; have q1e : r (.tmp 97) = .int .i64 py := q1; exact ⟨rfl, by simp [go_sem, q0e, q1e, i64w, W2.out]⟩) ?_
          refine TabR.tabR_val (Rs.pre HSL.out) (.pointer (some ⟨w.heap.size + 1, 1, none⟩)) (fun r w1 hr hg hA => by obtain ⟨q0, -⟩ := hA; have q0e : r (.tmp 4) = .pointer (some ⟨w.heap.size + 1, 0, none⟩) := q0; exact ⟨rfl, by simp [go_sem, q0e]⟩) ?_
          refine TabR.tabR_val (Rs.pre HSL.out) (.int .i64 qy) (fun r w1 hr hg hA => by obtain ⟨⟨_, q0⟩, -⟩ := hA; have q0e : r (.tmp 99) = .pointer (some ⟨w.heap.size + 1, 1, none⟩) := q0; have hc := CF.out w1 hg; exact ⟨rfl, by simp [go_sem, q0e, hc]⟩) ?_
          refine TabR.tabR_val (Rs.pre HSL.out) (.pointer (some ⟨w.heap.size, 1, none⟩)) (fun r w1 hr hg hA => by obtain ⟨q0, -⟩ := hA; have q0e : r (.tmp 3) = .pointer (some ⟨w.heap.size, 0, none⟩) := q0; exact ⟨rfl, by simp [go_sem, q0e]⟩) ?_
          refine TabR.tabR_val (Rs.pre HSL.out) (.int .i64 py) (fun r w1 hr hg hA => by obtain ⟨⟨_, q0⟩, -⟩ := hA; have q0e : r (.tmp 101) = .pointer (some ⟨w.heap.size, 1, none⟩) := q0; have hc := CF.out w1 hg; exact ⟨rfl, by simp [go_sem, q0e, hc]⟩) ?_
          refine TabR.tabR_val (Rs.pre HSL.out) (.int .i64 (qy - py)) (fun r w1 hr hg hA => by obtain ⟨⟨_, q0⟩, ⟨_, q1⟩, -⟩ := hA; have q0e : r (.tmp 100) = .int .i64 qy := q0; have q1e : r (.tmp 102) = .int .i64 py := q1; exact ⟨rfl, by simp [go_sem, q0e, q1e, i64w, W2.out]⟩) ?_
          refine TabR.tabR_call (Rs.pre HSL.out) (v := .int .i64 (signI (qy - py))) (fun w1 hg => rsign_any (qy - py) w1) (fun r w1 hr hg hA => by obtain ⟨⟨_, q0⟩, -⟩ := hA; have q0e : r (.tmp 103) = .int .i64 (qy - py) := q0; exact ⟨rfl, by simp [go_sem, hr.func, q0e]⟩) ?_
          refine TabR.tabR_val (Rs.pre HSL.out) (.int .i64 ((qy - py) * signI (qy - py))) (fun r w1 hr hg hA => by obtain ⟨⟨_, q0⟩, ⟨_, q1⟩, -⟩ := hA; have q0e : r (.tmp 98) = .int .i64 (qy - py) := q0; have q1e : r (.tmp 104) = .int .i64 (signI (qy - py)) := q1; exact ⟨rfl, by simp [go_sem, q0e, q1e, i64w, W4.out]⟩) ?_
          refine TabR.tabR_block (Rs.pre HSL.out) HN0.out (.cells #[.int .i64 ((qy - py) * signI (qy - py))] 3) (fun b => .slice (some ⟨b, 0, none⟩) 1 1) (fun r w1 hr hg hA => by obtain ⟨⟨_, q0⟩, -⟩ := hA; have q0e : r (.tmp 105) = .int .i64 ((qy - py) * signI (qy - py)) := q0; exact ⟨rfl, by simp [go_sem, q0e]⟩) ?_
          refine TabR.tabR_append HSL.out HN0.out (s := ⟨g2, m, vS L2 ++ [.int .i64 ((qy - py) * signI (qy - py))]⟩) (by simp) NE2.out (.tmp 93) (.tmp 106) (w.heap.size + 3) 64 3 i0 (.int .i64 0) 1 8 rfl Try.underlying64 hi0 hz0 hz1 hz2 rfl (by decide) vd2 m (vS L2) (HOWN.out.2) (GD.out) (Nat.mul_one m).symm 1 [.int .i64 ((qy - py) * signI (qy - py))] rfl rfl (by simp [Value.oneCell']) HM63.out HMB.out HB3.out (fun r w1 hr hg hA => by obtain ⟨⟨_, q0⟩, ⟨_, q1⟩, -⟩ := hA; have q0e : r (.tmp 93) = vd2 := q0; obtain ⟨b, q1e, -, hb⟩ := q1; exact ⟨rfl, q0e, b, 1, q1e, one_cell hb⟩) ?_
          refine TabR.tabR_end ?_
          simp only [List.reverse_cons, List.reverse_nil, List.nil_append, List.cons_append, Out, forall_eq, forall_const, Act.put, List.setIfInBounds_toArray, List.set_cons_succ, List.set_cons_zero]
          intro wA3 hrA v1 hv1 vn3 hn2 v3 hv3 vd3 hd2
          clear hv1 hv3
          have NBA3 : Hid (NB w.heap.size w wA3 px py qx qy lx ly hx hy) := Lib.hid (NBA2.out.rs ((Rs.pre HSL.out).trans ((Rs.pre HSL.out).of hg1) hrA) SGN.out)
          have NDA30 : Hid (ND w.heap.size wA3 vn3 vd3 (L2 ++ [(((cy - py) * signI (qy - py)), ((qy - py) * signI (qy - py)))])) := Lib.hid (ND.grown HML.out NBA2.out.2.1 HGN.out HGD.out HHD.out hn2 hd2)
          clear hrA hn2 hd2 hg1 hg1' hw0 CF HB3 HOWN HN0 HSL SGN NE1 NE2 HSLB HMB HM63 HM6 HAP GN GD HGN HGD HHD hk3 HK
          obtain ⟨L3, hL3⟩ : ∃ l, l = L2 ++ [(((cy - py) * signI (qy - py)), ((qy - py) * signI (qy - py)))] := ⟨_, rfl⟩
          rw [← hL3] at NDA30
          have NDA3 := Lib.hid NDA30.out
          have HLL3 := Lib.hid hL3
          have HL63 : Hid (L3.length ≤ 8) := Lib.hid (by rw [hL3, List.length_append]; have := HL62.out; simp only [List.length_cons, List.length_nil]; omega)
          clear hL3 NDA30 HML
          clear W1 W2 W3 W4
          go_wp2
          exact ⟨⟨k + 1, vn3, vd3, rfl, rfl, by simp, by omega, NBA3, Lib.hid (by rw [HPS.out, HX1.out, HX2.out, ← HLL2.out, ← HLL3.out]; exact NDA3.out)⟩, by simp only [intOf]; omega⟩
    · have HPL0 : Hid (plK px py qx qy ⟨lx, ly, hx, hy⟩ k = places px py qx qy ⟨lx, ly, hx, hy⟩) := Lib.hid (by rw [show k = 2 by omega]; exact plK_two px py qx qy ⟨lx, ly, hx, hy⟩)
      have HL6 := Lib.hid (plK_le px py qx qy ⟨lx, ly, hx, hy⟩ k)
      generalize plK px py qx qy ⟨lx, ly, hx, hy⟩ k = L at NDW HPL0 HL6
      have HPL : Hid (L = places px py qx qy ⟨lx, ly, hx, hy⟩) := HPL0
      have GW : Hid (Grows w wr) := Lib.hid NBW.out.1
      obtain ⟨wb, rfl⟩ : ∃ wb : World, wb = wr := ⟨_, rfl⟩
      have HSH := Lib.hid NDW.out.shape
      obtain ⟨gn, cn, gd, cd, rfl, rfl, hcn, hcd, hgn, hgd, hce⟩ := HSH.out
      have CE := Lib.hid hce
      have HGL := Lib.hid (And.intro hgn hgd)
      obtain ⟨m, hm⟩ : ∃ m, m = L.length := ⟨_, rfl⟩
      rw [← hm] at hcn hcd CE HL6
      simp only [← hm]
      have HLM := Lib.hid hm
      have hm8 : m ≤ 6 := HL6.out
      clear hce hgn hgd hm HSH NDW HPL0 HL6
      go_wp2
      go_loopw [12] (fun i wr => ∃ j : Nat, i = .int .i64 (j : Int) ∧ j ≤ m ∧ Hid (∀ a, a < j → ∀ c, c < m → prL px py qx qy ⟨lx, ly, hx, hy⟩ L a c = false) ∧ Hid (Grows wb wr)) (fun i _ => m + 1 - (intOf i).toNat)
      case atStart => exact ⟨0, rfl, Nat.zero_le _, Lib.hid (fun a ha => absurd ha (Nat.not_lt_zero _)), Lib.hid (Grows.refl _)⟩
      case round =>
        obtain ⟨j, rfl, hj, HPJ, GO⟩ := hrel
        by_cases hjm : j < m
        · obtain ⟨wo, rfl⟩ : ∃ wo : World, wo = wr := ⟨_, rfl⟩
          go_wp2
          go_loopw [13] (fun i wr => ∃ k : Nat, i = .int .i64 (k : Int) ∧ k ≤ m ∧ Hid (∀ c, c < k → prL px py qx qy ⟨lx, ly, hx, hy⟩ L j c = false) ∧ Hid (Grows wo wr)) (fun i _ => m + 1 - (intOf i).toNat)
          case atStart => exact ⟨0, rfl, Nat.zero_le _, Lib.hid (fun a ha => absurd ha (Nat.not_lt_zero _)), Lib.hid (Grows.refl _)⟩
          case round =>
            obtain ⟨k, rfl, hk, HPK, G⟩ := hrel
            by_cases hkm : k < m
            · have hC0 : ∀ w', Grows wr w' → _ := fun w' (hg : Grows wr w') => And.intro (CE.out j hjm) (And.intro (CE.out k hkm) (NBW.out.grows (GO.out.trans (G.out.trans hg))).cells)
              have BU0 := BD.out (L.getD j (0, 0)) (by rw [← HPL.out, getD_lt (by rw [← HLM.out]; exact hjm)]; exact List.getElem_mem _)
              have BV0 := BD.out (L.getD k (0, 0)) (by rw [← HPL.out, getD_lt (by rw [← HLM.out]; exact hkm)]; exact List.getElem_mem _)
              have HPR0 : prL px py qx qy ⟨lx, ly, hx, hy⟩ L j k = pairB px py qx qy ⟨lx, ly, hx, hy⟩ (L.getD j (0, 0)) (L.getD k (0, 0)) := rfl
              generalize L.getD j (0, 0) = u at hC0 BU0 HPR0
              generalize L.getD k (0, 0) = v at hC0 BV0 HPR0
              obtain ⟨a1, a2⟩ := u
              obtain ⟨c1, c2⟩ := v
              simp only at hC0 BU0 BV0
              have CF : Hid (∀ w', Grows wr w' → ((w'.cell? ⟨gn, j, none⟩ = some (.int .i64 a1) ∧ w'.cell? ⟨gd, j, none⟩ = some (.int .i64 a2)) ∧ (w'.cell? ⟨gn, k, none⟩ = some (.int .i64 c1) ∧ w'.cell? ⟨gd, k, none⟩ = some (.int .i64 c2))) ∧
                  (w'.cell? ⟨w.heap.size, 0, none⟩ = some (.int .i64 px) ∧ w'.cell? ⟨w.heap.size, 1, none⟩ = some (.int .i64 py)) ∧ (w'.cell? ⟨w.heap.size + 1, 0, none⟩ = some (.int .i64 qx) ∧ w'.cell? ⟨w.heap.size + 1, 1, none⟩ = some (.int .i64 qy)) ∧
                  (w'.cell? ⟨w.heap.size + 2, 0, none⟩ = some (.int .i64 lx) ∧ w'.cell? ⟨w.heap.size + 2, 1, none⟩ = some (.int .i64 ly) ∧ w'.cell? ⟨w.heap.size + 2, 2, none⟩ = some (.int .i64 hx) ∧ w'.cell? ⟨w.heap.size + 2, 3, none⟩ = some (.int .i64 hy))) := Lib.hid (fun w' hg => by
                obtain ⟨e1, e2, e3, e4, e5, -⟩ := hC0 w' hg
                have hgg := GO.out.trans (G.out.trans hg)
                refine ⟨⟨⟨?_, ?_⟩, ⟨?_, ?_⟩⟩, e3, e4, e5⟩
                · rw [Below.cell hgg (p := ⟨gn, j, none⟩) HGL.out.1]; exact e1.1
                · rw [Below.cell hgg (p := ⟨gd, j, none⟩) HGL.out.2]; exact e1.2
                · rw [Below.cell hgg (p := ⟨gn, k, none⟩) HGL.out.1]; exact e2.1
                · rw [Below.cell hgg (p := ⟨gd, k, none⟩) HGL.out.2]; exact e2.2)
              have BU := Lib.hid BU0
              have BV := Lib.hid BV0
              have HPR : Hid (prL px py qx qy ⟨lx, ly, hx, hy⟩ L j k = (decide (0 ≤ a1) && decide (c1 ≤ c2) && decide (a1 * c2 < c1 * a2) && strictB px qx a1 a2 c1 c2 lx hx && strictB py qy a1 a2 c1 c2 ly hy)) := HPR0
              have V1 : Hid (wrap64 (a1 * c2) = a1 * c2) := Lib.hid (w_prod ⟨BU.out.1, BU.out.2.1⟩ ⟨BV.out.2.2.1, BV.out.2.2.2⟩)
              have V2 : Hid (wrap64 (c1 * a2) = c1 * a2) := Lib.hid (w_prod ⟨BV.out.1, BV.out.2.1⟩ ⟨BU.out.2.2.1, BU.out.2.2.2⟩)
              have hjm2 : j < m := hjm
              have hkm2 : k < m := hkm
              clear hC0 BU0 BV0 HPR0
              by_cases h1 : a1 < 0
              · have C1 := Lib.hid h1
                have C2 : Hid True := Lib.hid trivial
                have C3 : Hid True := Lib.hid trivial
                have HE : Hid (prL px py qx qy ⟨lx, ly, hx, hy⟩ L j k = false) := Lib.hid (HPR.out.trans (by rw [decide_eq_false (by omega : ¬ 0 ≤ a1)]; simp))
                clear h1
                go_wp2_with fail
                refine wp_region_tab 37 (by kernel_rfl) (by kernel_rfl) ?_
                intro w0 hw0 hg1 hg1'
                simp only [List.take_succ_cons, List.take_zero, List.drop_succ_cons, List.drop_zero]
                refine tab_val (.slice (some ⟨gn, 0, none⟩) m cn) (fun r w1 hr hg hA => by obtain ⟨q0, -⟩ := hA; have q0e : r (.tmp 7) = .slice (some ⟨gn, 0, none⟩) m cn := q0; exact ⟨rfl, by simp [go_sem, q0e]⟩) ?_
                refine tab_val (.int .i64 (j : Int)) (fun r w1 hr hg hA => by obtain ⟨q0, -⟩ := hA; have q0e : r (.tmp 12) = .int .i64 (j : Int) := q0; exact ⟨rfl, by simp [go_sem, q0e]⟩) ?_
                refine tab_val (.pointer (some ⟨gn, j, none⟩)) (fun r w1 hr hg hA => by obtain ⟨⟨_, q0⟩, ⟨_, q1⟩, -⟩ := hA; have q0e : r (.tmp 120) = .slice (some ⟨gn, 0, none⟩) m cn := q0; have q1e : r (.tmp 121) = .int .i64 (j : Int) := q1; exact ⟨rfl, by simp [go_sem, q0e, q1e, hjm2]⟩) ?_
                refine tab_val (.int .i64 a1) (fun r w1 hr hg hA => by obtain ⟨⟨_, q0⟩, -⟩ := hA; have q0e : r (.tmp 122) = .pointer (some ⟨gn, j, none⟩) := q0; have hc := CF.out w1 (hg1.trans hg); exact ⟨rfl, by simp [go_sem, q0e, hc]⟩) ?_
                refine tab_val (.bool true) (fun r w1 hr hg hA => by obtain ⟨⟨_, q0⟩, -⟩ := hA; have q0e : r (.tmp 123) = .int .i64 a1 := q0; exact ⟨rfl, by simp [go_sem, hr.const, q0e, C1.out]⟩) ?_
                refine tab_val (.bool true) (fun r w1 hr hg hA => by obtain ⟨⟨_, q0⟩, -⟩ := hA; have q0e : r (.tmp 124) = .bool true := q0; exact ⟨rfl, by simp [go_sem, q0e]⟩) ?_
                refine tab_skip (fun r w1 hr hg hA => by obtain ⟨q0, ⟨_, q1⟩, -⟩ := hA; have q0e : r (.tmp 7) = .slice (some ⟨gn, 0, none⟩) m cn := q0; have q1e : r (.tmp 125) = .bool true := q1; exact ⟨_, q1e, rfl⟩) ?_
                refine tab_skip (fun r w1 hr hg hA => by obtain ⟨q0, ⟨_, q1⟩, -⟩ := hA; have q0e : r (.tmp 13) = .int .i64 (k : Int) := q0; have q1e : r (.tmp 125) = .bool true := q1; exact ⟨_, q1e, rfl⟩) ?_
                refine tab_skip (fun r w1 hr hg hA => by obtain ⟨⟨_, q0⟩, ⟨_, q1⟩, ⟨_, q2⟩, -⟩ := hA; have q0e : r (.tmp 126) = undef := q0; have q1e : r (.tmp 127) = undef := q1; have q2e : r (.tmp 125) = .bool true := q2; exact ⟨_, q2e, rfl⟩) ?_
                refine tab_skip (fun r w1 hr hg hA => by obtain ⟨⟨_, q0⟩, ⟨_, q1⟩, -⟩ := hA; have q0e : r (.tmp 128) = undef := q0; have q1e : r (.tmp 125) = .bool true := q1; exact ⟨_, q1e, rfl⟩) ?_
                refine tab_skip (fun r w1 hr hg hA => by obtain ⟨q0, ⟨_, q1⟩, -⟩ := hA; have q0e : r (.tmp 8) = .slice (some ⟨gd, 0, none⟩) m cd := q0; have q1e : r (.tmp 125) = .bool true := q1; exact ⟨_, q1e, rfl⟩) ?_
                refine tab_skip (fun r w1 hr hg hA => by obtain ⟨q0, ⟨_, q1⟩, -⟩ := hA; have q0e : r (.tmp 13) = .int .i64 (k : Int) := q0; have q1e : r (.tmp 125) = .bool true := q1; exact ⟨_, q1e, rfl⟩) ?_
                refine tab_skip (fun r w1 hr hg hA => by obtain ⟨⟨_, q0⟩, ⟨_, q1⟩, ⟨_, q2⟩, -⟩ := hA; have q0e : r (.tmp 130) = undef := q0; have q1e : r (.tmp 131) = undef := q1; have q2e : r (.tmp 125) = .bool true := q2; exact ⟨_, q2e, rfl⟩) ?_
                refine tab_skip (fun r w1 hr hg hA => by obtain ⟨⟨_, q0⟩, ⟨_, q1⟩, -⟩ := hA; have q0e : r (.tmp 132) = undef := q0; have q1e : r (.tmp 125) = .bool true := q1; exact ⟨_, q1e, rfl⟩) ?_
                refine tab_skip (fun r w1 hr hg hA => by obtain ⟨⟨_, q0⟩, ⟨_, q1⟩, ⟨_, q2⟩, -⟩ := hA; have q0e : r (.tmp 129) = undef := q0; have q1e : r (.tmp 133) = undef := q1; have q2e : r (.tmp 125) = .bool true := q2; exact ⟨_, q2e, rfl⟩) ?_
                refine tab_val (.bool true) (fun r w1 hr hg hA => by obtain ⟨⟨_, q0⟩, ⟨_, q1⟩, -⟩ := hA; have q0e : r (.tmp 125) = .bool true := q0; have q1e : r (.tmp 134) = undef := q1; exact ⟨rfl, by simp [go_sem, hr.const, q0e]⟩) ?_
                refine tab_val (.bool true) (fun r w1 hr hg hA => by obtain ⟨⟨_, q0⟩, -⟩ := hA; have q0e : r (.tmp 135) = .bool true := q0; exact ⟨rfl, by simp [go_sem, q0e]⟩) ?_
                refine tab_skip (fun r w1 hr hg hA => by obtain ⟨q0, ⟨_, q1⟩, -⟩ := hA; have q0e : r (.tmp 7) = .slice (some ⟨gn, 0, none⟩) m cn := q0; have q1e : r (.tmp 136) = .bool true := q1; exact ⟨_, q1e, rfl⟩) ?_
                refine tab_skip (fun r w1 hr hg hA => by obtain ⟨q0, ⟨_, q1⟩, -⟩ := hA; have q0e : r (.tmp 12) = .int .i64 (j : Int) := q0; have q1e : r (.tmp 136) = .bool true := q1; exact ⟨_, q1e, rfl⟩) ?_
                refine tab_skip (fun r w1 hr hg hA => by obtain ⟨⟨_, q0⟩, ⟨_, q1⟩, ⟨_, q2⟩, -⟩ := hA; have q0e : r (.tmp 137) = undef := q0; have q1e : r (.tmp 138) = undef := q1; have q2e : r (.tmp 136) = .bool true := q2; exact ⟨_, q2e, rfl⟩) ?_
                refine tab_skip (fun r w1 hr hg hA => by obtain ⟨⟨_, q0⟩, ⟨_, q1⟩, -⟩ := hA; have q0e : r (.tmp 139) = undef := q0; have q1e : r (.tmp 136) = .bool true := q1; exact ⟨_, q1e, rfl⟩) ?_
                refine tab_skip (fun r w1 hr hg hA => by obtain ⟨q0, ⟨_, q1⟩, -⟩ := hA; have q0e : r (.tmp 8) = .slice (some ⟨gd, 0, none⟩) m cd := q0; have q1e : r (.tmp 136) = .bool true := q1; exact ⟨_, q1e, rfl⟩) ?_
                refine tab_skip (fun r w1 hr hg hA => by obtain ⟨q0, ⟨_, q1⟩, -⟩ := hA; have q0e : r (.tmp 13) = .int .i64 (k : Int) := q0; have q1e : r (.tmp 136) = .bool true := q1; exact ⟨_, q1e, rfl⟩) ?_
                refine tab_skip (fun r w1 hr hg hA => by obtain ⟨⟨_, q0⟩, ⟨_, q1⟩, ⟨_, q2⟩, -⟩ := hA; have q0e : r (.tmp 141) = undef := q0; have q1e : r (.tmp 142) = undef := q1; have q2e : r (.tmp 136) = .bool true := q2; exact ⟨_, q2e, rfl⟩) ?_
                refine tab_skip (fun r w1 hr hg hA => by obtain ⟨⟨_, q0⟩, ⟨_, q1⟩, -⟩ := hA; have q0e : r (.tmp 143) = undef := q0; have q1e : r (.tmp 136) = .bool true := q1; exact ⟨_, q1e, rfl⟩) ?_
                refine tab_skip (fun r w1 hr hg hA => by obtain ⟨⟨_, q0⟩, ⟨_, q1⟩, ⟨_, q2⟩, -⟩ := hA; have q0e : r (.tmp 140) = undef := q0; have q1e : r (.tmp 144) = undef := q1; have q2e : r (.tmp 136) = .bool true := q2; exact ⟨_, q2e, rfl⟩) ?_
                refine tab_skip (fun r w1 hr hg hA => by obtain ⟨q0, ⟨_, q1⟩, -⟩ := hA; have q0e : r (.tmp 7) = .slice (some ⟨gn, 0, none⟩) m cn := q0; have q1e : r (.tmp 136) = .bool true := q1; exact ⟨_, q1e, rfl⟩) ?_
                refine tab_skip (fun r w1 hr hg hA => by obtain ⟨q0, ⟨_, q1⟩, -⟩ := hA; have q0e : r (.tmp 13) = .int .i64 (k : Int) := q0; have q1e : r (.tmp 136) = .bool true := q1; exact ⟨_, q1e, rfl⟩) ?_
                refine tab_skip (fun r w1 hr hg hA => by obtain ⟨⟨_, q0⟩, ⟨_, q1⟩, ⟨_, q2⟩, -⟩ := hA; have q0e : r (.tmp 146) = undef := q0; have q1e : r (.tmp 147) = undef := q1; have q2e : r (.tmp 136) = .bool true := q2; exact ⟨_, q2e, rfl⟩) ?_
                refine tab_skip (fun r w1 hr hg hA => by obtain ⟨⟨_, q0⟩, ⟨_, q1⟩, -⟩ := hA; have q0e : r (.tmp 148) = undef := q0; have q1e : r (.tmp 136) = .bool true := q1; exact ⟨_, q1e, rfl⟩) ?_
                refine tab_skip (fun r w1 hr hg hA => by obtain ⟨q0, ⟨_, q1⟩, -⟩ := hA; have q0e : r (.tmp 8) = .slice (some ⟨gd, 0, none⟩) m cd := q0; have q1e : r (.tmp 136) = .bool true := q1; exact ⟨_, q1e, rfl⟩) ?_
                refine tab_skip (fun r w1 hr hg hA => by obtain ⟨q0, ⟨_, q1⟩, -⟩ := hA; have q0e : r (.tmp 12) = .int .i64 (j : Int) := q0; have q1e : r (.tmp 136) = .bool true := q1; exact ⟨_, q1e, rfl⟩) ?_
                refine tab_skip (fun r w1 hr hg hA => by obtain ⟨⟨_, q0⟩, ⟨_, q1⟩, ⟨_, q2⟩, -⟩ := hA; have q0e : r (.tmp 150) = undef := q0; have q1e : r (.tmp 151) = undef := q1; have q2e : r (.tmp 136) = .bool true := q2; exact ⟨_, q2e, rfl⟩) ?_
                refine tab_skip (fun r w1 hr hg hA => by obtain ⟨⟨_, q0⟩, ⟨_, q1⟩, -⟩ := hA; have q0e : r (.tmp 152) = undef := q0; have q1e : r (.tmp 136) = .bool true := q1; exact ⟨_, q1e, rfl⟩) ?_
                refine tab_skip (fun r w1 hr hg hA => by obtain ⟨⟨_, q0⟩, ⟨_, q1⟩, ⟨_, q2⟩, -⟩ := hA; have q0e : r (.tmp 149) = undef := q0; have q1e : r (.tmp 153) = undef := q1; have q2e : r (.tmp 136) = .bool true := q2; exact ⟨_, q2e, rfl⟩) ?_
                refine tab_skip (fun r w1 hr hg hA => by obtain ⟨⟨_, q0⟩, ⟨_, q1⟩, ⟨_, q2⟩, -⟩ := hA; have q0e : r (.tmp 145) = undef := q0; have q1e : r (.tmp 154) = undef := q1; have q2e : r (.tmp 136) = .bool true := q2; exact ⟨_, q2e, rfl⟩) ?_
                refine tab_val (.bool true) (fun r w1 hr hg hA => by obtain ⟨⟨_, q0⟩, ⟨_, q1⟩, -⟩ := hA; have q0e : r (.tmp 136) = .bool true := q0; have q1e : r (.tmp 155) = undef := q1; exact ⟨rfl, by simp [go_sem, hr.const, q0e]⟩) ?_
                refine tab_end ?_
                simp only [List.reverse_cons, List.reverse_nil, List.nil_append, List.cons_append, Out, BlockP, forall_eq, forall_const, Act.put, List.setIfInBounds_toArray, List.set_cons_succ, List.set_cons_zero]
                intro wB hgA
                have GB : Hid (Grows wr wB) := Lib.hid (hg1.trans hgA)
                clear hg1 hgA hg1' hw0
                go_wp2
                exact ⟨⟨k + 1, by simp, by omega, Lib.hid (fun c hc => (Nat.lt_succ_iff_lt_or_eq.1 hc).elim (fun h => HPK.out c h) (fun h => by rw [h]; exact HE.out)), Lib.hid (G.out.trans (GB.out))⟩, by simp only [intOf]; omega⟩
              · by_cases h2 : c2 < c1
                · have C1 := Lib.hid h1
                  have C2 := Lib.hid h2
                  have C3 : Hid True := Lib.hid trivial
                  have HE : Hid (prL px py qx qy ⟨lx, ly, hx, hy⟩ L j k = false) := Lib.hid (HPR.out.trans (by rw [decide_eq_false (by omega : ¬ c1 ≤ c2)]; simp))
                  clear h1 h2
                  go_wp2_with fail
                  refine wp_region_tab 37 (by kernel_rfl) (by kernel_rfl) ?_
                  intro w0 hw0 hg1 hg1'
                  simp only [List.take_succ_cons, List.take_zero, List.drop_succ_cons, List.drop_zero]
                  refine tab_val (.slice (some ⟨gn, 0, none⟩) m cn) (fun r w1 hr hg hA => by obtain ⟨q0, -⟩ := hA; have q0e : r (.tmp 7) = .slice (some ⟨gn, 0, none⟩) m cn := q0; exact ⟨rfl, by simp [go_sem, q0e]⟩) ?_
                  refine tab_val (.int .i64 (j : Int)) (fun r w1 hr hg hA => by obtain ⟨q0, -⟩ := hA; have q0e : r (.tmp 12) = .int .i64 (j : Int) := q0; exact ⟨rfl, by simp [go_sem, q0e]⟩) ?_
                  refine tab_val (.pointer (some ⟨gn, j, none⟩)) (fun r w1 hr hg hA => by obtain ⟨⟨_, q0⟩, ⟨_, q1⟩, -⟩ := hA; have q0e : r (.tmp 120) = .slice (some ⟨gn, 0, none⟩) m cn := q0; have q1e : r (.tmp 121) = .int .i64 (j : Int) := q1; exact ⟨rfl, by simp [go_sem, q0e, q1e, hjm2]⟩) ?_
                  refine tab_val (.int .i64 a1) (fun r w1 hr hg hA => by obtain ⟨⟨_, q0⟩, -⟩ := hA; have q0e : r (.tmp 122) = .pointer (some ⟨gn, j, none⟩) := q0; have hc := CF.out w1 (hg1.trans hg); exact ⟨rfl, by simp [go_sem, q0e, hc]⟩) ?_
                  refine tab_val (.bool false) (fun r w1 hr hg hA => by obtain ⟨⟨_, q0⟩, -⟩ := hA; have q0e : r (.tmp 123) = .int .i64 a1 := q0; exact ⟨rfl, by simp [go_sem, hr.const, q0e, C1.out]⟩) ?_
                  refine tab_val (.bool false) (fun r w1 hr hg hA => by obtain ⟨⟨_, q0⟩, -⟩ := hA; have q0e : r (.tmp 124) = .bool false := q0; exact ⟨rfl, by simp [go_sem, q0e]⟩) ?_
                  refine tab_val (.slice (some ⟨gn, 0, none⟩) m cn) (fun r w1 hr hg hA => by obtain ⟨q0, ⟨_, q1⟩, -⟩ := hA; have q0e : r (.tmp 7) = .slice (some ⟨gn, 0, none⟩) m cn := q0; have q1e : r (.tmp 125) = .bool false := q1; exact ⟨⟨_, q1e, rfl⟩, by simp [go_sem, q0e]⟩) ?_
                  refine tab_val (.int .i64 (k : Int)) (fun r w1 hr hg hA => by obtain ⟨q0, ⟨_, q1⟩, -⟩ := hA; have q0e : r (.tmp 13) = .int .i64 (k : Int) := q0; have q1e : r (.tmp 125) = .bool false := q1; exact ⟨⟨_, q1e, rfl⟩, by simp [go_sem, q0e]⟩) ?_
                  refine tab_val (.pointer (some ⟨gn, k, none⟩)) (fun r w1 hr hg hA => by obtain ⟨⟨_, q0⟩, ⟨_, q1⟩, ⟨_, q2⟩, -⟩ := hA; have q0e : r (.tmp 126) = .slice (some ⟨gn, 0, none⟩) m cn := q0; have q1e : r (.tmp 127) = .int .i64 (k : Int) := q1; have q2e : r (.tmp 125) = .bool false := q2; exact ⟨⟨_, q2e, rfl⟩, by simp [go_sem, q0e, q1e, hkm2]⟩) ?_
                  refine tab_val (.int .i64 c1) (fun r w1 hr hg hA => by obtain ⟨⟨_, q0⟩, ⟨_, q1⟩, -⟩ := hA; have q0e : r (.tmp 128) = .pointer (some ⟨gn, k, none⟩) := q0; have q1e : r (.tmp 125) = .bool false := q1; have hc := CF.out w1 (hg1.trans hg); exact ⟨⟨_, q1e, rfl⟩, by simp [go_sem, q0e, hc]⟩) ?_
                  refine tab_val (.slice (some ⟨gd, 0, none⟩) m cd) (fun r w1 hr hg hA => by obtain ⟨q0, ⟨_, q1⟩, -⟩ := hA; have q0e : r (.tmp 8) = .slice (some ⟨gd, 0, none⟩) m cd := q0; have q1e : r (.tmp 125) = .bool false := q1; exact ⟨⟨_, q1e, rfl⟩, by simp [go_sem, q0e]⟩) ?_
                  refine tab_val (.int .i64 (k : Int)) (fun r w1 hr hg hA => by obtain ⟨q0, ⟨_, q1⟩, -⟩ := hA; have q0e : r (.tmp 13) = .int .i64 (k : Int) := q0; have q1e : r (.tmp 125) = .bool false := q1; exact ⟨⟨_, q1e, rfl⟩, by simp [go_sem, q0e]⟩) ?_
                  refine tab_val (.pointer (some ⟨gd, k, none⟩)) (fun r w1 hr hg hA => by obtain ⟨⟨_, q0⟩, ⟨_, q1⟩, ⟨_, q2⟩, -⟩ := hA; have q0e : r (.tmp 130) = .slice (some ⟨gd, 0, none⟩) m cd := q0; have q1e : r (.tmp 131) = .int .i64 (k : Int) := q1; have q2e : r (.tmp 125) = .bool false := q2; exact ⟨⟨_, q2e, rfl⟩, by simp [go_sem, q0e, q1e, hkm2]⟩) ?_
                  refine tab_val (.int .i64 c2) (fun r w1 hr hg hA => by obtain ⟨⟨_, q0⟩, ⟨_, q1⟩, -⟩ := hA; have q0e : r (.tmp 132) = .pointer (some ⟨gd, k, none⟩) := q0; have q1e : r (.tmp 125) = .bool false := q1; have hc := CF.out w1 (hg1.trans hg); exact ⟨⟨_, q1e, rfl⟩, by simp [go_sem, q0e, hc]⟩) ?_
                  refine tab_val (.bool true) (fun r w1 hr hg hA => by obtain ⟨⟨_, q0⟩, ⟨_, q1⟩, ⟨_, q2⟩, -⟩ := hA; have q0e : r (.tmp 129) = .int .i64 c1 := q0; have q1e : r (.tmp 133) = .int .i64 c2 := q1; have q2e : r (.tmp 125) = .bool false := q2; exact ⟨⟨_, q2e, rfl⟩, by simp [go_sem, q0e, q1e, C2.out]⟩) ?_
                  refine tab_val (.bool true) (fun r w1 hr hg hA => by obtain ⟨⟨_, q0⟩, ⟨_, q1⟩, -⟩ := hA; have q0e : r (.tmp 125) = .bool false := q0; have q1e : r (.tmp 134) = .bool true := q1; exact ⟨rfl, by simp [go_sem, q0e, q1e]⟩) ?_
                  refine tab_val (.bool true) (fun r w1 hr hg hA => by obtain ⟨⟨_, q0⟩, -⟩ := hA; have q0e : r (.tmp 135) = .bool true := q0; exact ⟨rfl, by simp [go_sem, q0e]⟩) ?_
                  refine tab_skip (fun r w1 hr hg hA => by obtain ⟨q0, ⟨_, q1⟩, -⟩ := hA; have q0e : r (.tmp 7) = .slice (some ⟨gn, 0, none⟩) m cn := q0; have q1e : r (.tmp 136) = .bool true := q1; exact ⟨_, q1e, rfl⟩) ?_
                  refine tab_skip (fun r w1 hr hg hA => by obtain ⟨q0, ⟨_, q1⟩, -⟩ := hA; have q0e : r (.tmp 12) = .int .i64 (j : Int) := q0; have q1e : r (.tmp 136) = .bool true := q1; exact ⟨_, q1e, rfl⟩) ?_
                  refine tab_skip (fun r w1 hr hg hA => by obtain ⟨⟨_, q0⟩, ⟨_, q1⟩, ⟨_, q2⟩, -⟩ := hA; have q0e : r (.tmp 137) = undef := q0; have q1e : r (.tmp 138) = undef := q1; have q2e : r (.tmp 136) = .bool true := q2; exact ⟨_, q2e, rfl⟩) ?_
                  refine tab_skip (fun r w1 hr hg hA => by obtain ⟨⟨_, q0⟩, ⟨_, q1⟩, -⟩ := hA; have q0e : r (.tmp 139) = undef := q0; have q1e : r (.tmp 136) = .bool true := q1; exact ⟨_, q1e, rfl⟩) ?_
                  refine tab_skip (fun r w1 hr hg hA => by obtain ⟨q0, ⟨_, q1⟩, -⟩ := hA; have q0e : r (.tmp 8) = .slice (some ⟨gd, 0, none⟩) m cd := q0; have q1e : r (.tmp 136) = .bool true := q1; exact ⟨_, q1e, rfl⟩) ?_
                  refine tab_skip (fun r w1 hr hg hA => by obtain ⟨q0, ⟨_, q1⟩, -⟩ := hA; have q0e : r (.tmp 13) = .int .i64 (k : Int) := q0; have q1e : r (.tmp 136) = .bool true := q1; exact ⟨_, q1e, rfl⟩) ?_
                  refine tab_skip (fun r w1 hr hg hA => by obtain ⟨⟨_, q0⟩, ⟨_, q1⟩, ⟨_, q2⟩, -⟩ := hA; have q0e : r (.tmp 141) = undef := q0; have q1e : r (.tmp 142) = undef := q1; have q2e : r (.tmp 136) = .bool true := q2; exact ⟨_, q2e, rfl⟩) ?_
                  refine tab_skip (fun r w1 hr hg hA => by obtain ⟨⟨_, q0⟩, ⟨_, q1⟩, -⟩ := hA; have q0e : r (.tmp 143) = undef := q0; have q1e : r (.tmp 136) = .bool true := q1; exact ⟨_, q1e, rfl⟩) ?_
                  refine tab_skip (fun r w1 hr hg hA => by obtain ⟨⟨_, q0⟩, ⟨_, q1⟩, ⟨_, q2⟩, -⟩ := hA; have q0e : r (.tmp 140) = undef := q0; have q1e : r (.tmp 144) = undef := q1; have q2e : r (.tmp 136) = .bool true := q2; exact ⟨_, q2e, rfl⟩) ?_
                  refine tab_skip (fun r w1 hr hg hA => by obtain ⟨q0, ⟨_, q1⟩, -⟩ := hA; have q0e : r (.tmp 7) = .slice (some ⟨gn, 0, none⟩) m cn := q0; have q1e : r (.tmp 136) = .bool true := q1; exact ⟨_, q1e, rfl⟩) ?_
                  refine tab_skip (fun r w1 hr hg hA => by obtain ⟨q0, ⟨_, q1⟩, -⟩ := hA; have q0e : r (.tmp 13) = .int .i64 (k : Int) := q0; have q1e : r (.tmp 136) = .bool true := q1; exact ⟨_, q1e, rfl⟩) ?_
                  refine tab_skip (fun r w1 hr hg hA => by obtain ⟨⟨_, q0⟩, ⟨_, q1⟩, ⟨_, q2⟩, -⟩ := hA; have q0e : r (.tmp 146) = undef := q0; have q1e : r (.tmp 147) = undef := q1; have q2e : r (.tmp 136) = .bool true := q2; exact ⟨_, q2e, rfl⟩) ?_
                  refine tab_skip (fun r w1 hr hg hA => by obtain ⟨⟨_, q0⟩, ⟨_, q1⟩, -⟩ := hA; have q0e : r (.tmp 148) = undef := q0; have q1e : r (.tmp 136) = .bool true := q1; exact ⟨_, q1e, rfl⟩) ?_
                  refine tab_skip (fun r w1 hr hg hA => by obtain ⟨q0, ⟨_, q1⟩, -⟩ := hA; have q0e : r (.tmp 8) = .slice (some ⟨gd, 0, none⟩) m cd := q0; have q1e : r (.tmp 136) = .bool true := q1; exact ⟨_, q1e, rfl⟩) ?_
                  refine tab_skip (fun r w1 hr hg hA => by obtain ⟨q0, ⟨_, q1⟩, -⟩ := hA; have q0e : r (.tmp 12) = .int .i64 (j : Int) := q0; have q1e : r (.tmp 136) = .bool true := q1; exact ⟨_, q1e, rfl⟩) ?_
                  refine tab_skip (fun r w1 hr hg hA => by obtain ⟨⟨_, q0⟩, ⟨_, q1⟩, ⟨_, q2⟩, -⟩ := hA; have q0e : r (.tmp 150) = undef := q0; have q1e : r (.tmp 151) = undef := q1; have q2e : r (.tmp 136) = .bool true := q2; exact ⟨_, q2e, rfl⟩) ?_
                  refine tab_skip (fun r w1 hr hg hA => by obtain ⟨⟨_, q0⟩, ⟨_, q1⟩, -⟩ := hA; have q0e : r (.tmp 152) = undef := q0; have q1e : r (.tmp 136) = .bool true := q1; exact ⟨_, q1e, rfl⟩) ?_
                  refine tab_skip (fun r w1 hr hg hA => by obtain ⟨⟨_, q0⟩, ⟨_, q1⟩, ⟨_, q2⟩, -⟩ := hA; have q0e : r (.tmp 149) = undef := q0; have q1e : r (.tmp 153) = undef := q1; have q2e : r (.tmp 136) = .bool true := q2; exact ⟨_, q2e, rfl⟩) ?_
                  refine tab_skip (fun r w1 hr hg hA => by obtain ⟨⟨_, q0⟩, ⟨_, q1⟩, ⟨_, q2⟩, -⟩ := hA; have q0e : r (.tmp 145) = undef := q0; have q1e : r (.tmp 154) = undef := q1; have q2e : r (.tmp 136) = .bool true := q2; exact ⟨_, q2e, rfl⟩) ?_
                  refine tab_val (.bool true) (fun r w1 hr hg hA => by obtain ⟨⟨_, q0⟩, ⟨_, q1⟩, -⟩ := hA; have q0e : r (.tmp 136) = .bool true := q0; have q1e : r (.tmp 155) = undef := q1; exact ⟨rfl, by simp [go_sem, hr.const, q0e]⟩) ?_
                  refine tab_end ?_
                  simp only [List.reverse_cons, List.reverse_nil, List.nil_append, List.cons_append, Out, BlockP, forall_eq, forall_const, Act.put, List.setIfInBounds_toArray, List.set_cons_succ, List.set_cons_zero]
                  intro wB hgA
                  have GB : Hid (Grows wr wB) := Lib.hid (hg1.trans hgA)
                  clear hg1 hgA hg1' hw0
                  go_wp2
                  exact ⟨⟨k + 1, by simp, by omega, Lib.hid (fun c hc => (Nat.lt_succ_iff_lt_or_eq.1 hc).elim (fun h => HPK.out c h) (fun h => by rw [h]; exact HE.out)), Lib.hid (G.out.trans (GB.out))⟩, by simp only [intOf]; omega⟩
                · by_cases h3 : c1 * a2 ≤ a1 * c2
                  · have C1 := Lib.hid h1
                    have C2 := Lib.hid h2
                    have C3 := Lib.hid h3
                    have HE : Hid (prL px py qx qy ⟨lx, ly, hx, hy⟩ L j k = false) := Lib.hid (HPR.out.trans (by rw [decide_eq_false (by omega : ¬ a1 * c2 < c1 * a2)]; simp))
                    clear h1 h2 h3
                    go_wp2_with fail
                    refine wp_region_tab 37 (by kernel_rfl) (by kernel_rfl) ?_
                    intro w0 hw0 hg1 hg1'
                    simp only [List.take_succ_cons, List.take_zero, List.drop_succ_cons, List.drop_zero]
                    refine tab_val (.slice (some ⟨gn, 0, none⟩) m cn) (fun r w1 hr hg hA => by obtain ⟨q0, -⟩ := hA; have q0e : r (.tmp 7) = .slice (some ⟨gn, 0, none⟩) m cn := q0; exact ⟨rfl, by simp [go_sem, q0e]⟩) ?_
                    refine tab_val (.int .i64 (j : Int)) (fun r w1 hr hg hA => by obtain ⟨q0, -⟩ := hA; have q0e : r (.tmp 12) = .int .i64 (j : Int) := q0; exact ⟨rfl, by simp [go_sem, q0e]⟩) ?_
                    refine tab_val (.pointer (some ⟨gn, j, none⟩)) (fun r w1 hr hg hA => by obtain ⟨⟨_, q0⟩, ⟨_, q1⟩, -⟩ := hA; have q0e : r (.tmp 120) = .slice (some ⟨gn, 0, none⟩) m cn := q0; have q1e : r (.tmp 121) = .int .i64 (j : Int) := q1; exact ⟨rfl, by simp [go_sem, q0e, q1e, hjm2]⟩) ?_
                    refine tab_val (.int .i64 a1) (fun r w1 hr hg hA => by obtain ⟨⟨_, q0⟩, -⟩ := hA; have q0e : r (.tmp 122) = .pointer (some ⟨gn, j, none⟩) := q0; have hc := CF.out w1 (hg1.trans hg); exact ⟨rfl, by simp [go_sem, q0e, hc]⟩) ?_
                    refine tab_val (.bool false) (fun r w1 hr hg hA => by obtain ⟨⟨_, q0⟩, -⟩ := hA; have q0e : r (.tmp 123) = .int .i64 a1 := q0; exact ⟨rfl, by simp [go_sem, hr.const, q0e, C1.out]⟩) ?_
                    refine tab_val (.bool false) (fun r w1 hr hg hA => by obtain ⟨⟨_, q0⟩, -⟩ := hA; have q0e : r (.tmp 124) = .bool false := q0; exact ⟨rfl, by simp [go_sem, q0e]⟩) ?_
                    refine tab_val (.slice (some ⟨gn, 0, none⟩) m cn) (fun r w1 hr hg hA => by obtain ⟨q0, ⟨_, q1⟩, -⟩ := hA; have q0e : r (.tmp 7) = .slice (some ⟨gn, 0, none⟩) m cn := q0; have q1e : r (.tmp 125) = .bool false := q1; exact ⟨⟨_, q1e, rfl⟩, by simp [go_sem, q0e]⟩) ?_
                    refine tab_val (.int .i64 (k : Int)) (fun r w1 hr hg hA => by obtain ⟨q0, ⟨_, q1⟩, -⟩ := hA; have q0e : r (.tmp 13) = .int .i64 (k : Int) := q0; have q1e : r (.tmp 125) = .bool false := q1; exact ⟨⟨_, q1e, rfl⟩, by simp [go_sem, q0e]⟩) ?_
                    refine tab_val (.pointer (some ⟨gn, k, none⟩)) (fun r w1 hr hg hA => by obtain ⟨⟨_, q0⟩, ⟨_, q1⟩, ⟨_, q2⟩, -⟩ := hA; have q0e : r (.tmp 126) = .slice (some ⟨gn, 0, none⟩) m cn := q0; have q1e : r (.tmp 127) = .int .i64 (k : Int) := q1; have q2e : r (.tmp 125) = .bool false := q2; exact ⟨⟨_, q2e, rfl⟩, by simp [go_sem, q0e, q1e, hkm2]⟩) ?_
                    refine tab_val (.int .i64 c1) (fun r w1 hr hg hA => by obtain ⟨⟨_, q0⟩, ⟨_, q1⟩, -⟩ := hA; have q0e : r (.tmp 128) = .pointer (some ⟨gn, k, none⟩) := q0; have q1e : r (.tmp 125) = .bool false := q1; have hc := CF.out w1 (hg1.trans hg); exact ⟨⟨_, q1e, rfl⟩, by simp [go_sem, q0e, hc]⟩) ?_
                    refine tab_val (.slice (some ⟨gd, 0, none⟩) m cd) (fun r w1 hr hg hA => by obtain ⟨q0, ⟨_, q1⟩, -⟩ := hA; have q0e : r (.tmp 8) = .slice (some ⟨gd, 0, none⟩) m cd := q0; have q1e : r (.tmp 125) = .bool false := q1; exact ⟨⟨_, q1e, rfl⟩, by simp [go_sem, q0e]⟩) ?_
                    refine tab_val (.int .i64 (k : Int)) (fun r w1 hr hg hA => by obtain ⟨q0, ⟨_, q1⟩, -⟩ := hA; have q0e : r (.tmp 13) = .int .i64 (k : Int) := q0; have q1e : r (.tmp 125) = .bool false := q1; exact ⟨⟨_, q1e, rfl⟩, by simp [go_sem, q0e]⟩) ?_
                    refine tab_val (.pointer (some ⟨gd, k, none⟩)) (fun r w1 hr hg hA => by obtain ⟨⟨_, q0⟩, ⟨_, q1⟩, ⟨_, q2⟩, -⟩ := hA; have q0e : r (.tmp 130) = .slice (some ⟨gd, 0, none⟩) m cd := q0; have q1e : r (.tmp 131) = .int .i64 (k : Int) := q1; have q2e : r (.tmp 125) = .bool false := q2; exact ⟨⟨_, q2e, rfl⟩, by simp [go_sem, q0e, q1e, hkm2]⟩) ?_
                    refine tab_val (.int .i64 c2) (fun r w1 hr hg hA => by obtain ⟨⟨_, q0⟩, ⟨_, q1⟩, -⟩ := hA; have q0e : r (.tmp 132) = .pointer (some ⟨gd, k, none⟩) := q0; have q1e : r (.tmp 125) = .bool false := q1; have hc := CF.out w1 (hg1.trans hg); exact ⟨⟨_, q1e, rfl⟩, by simp [go_sem, q0e, hc]⟩) ?_
                    refine tab_val (.bool false) (fun r w1 hr hg hA => by obtain ⟨⟨_, q0⟩, ⟨_, q1⟩, ⟨_, q2⟩, -⟩ := hA; have q0e : r (.tmp 129) = .int .i64 c1 := q0; have q1e : r (.tmp 133) = .int .i64 c2 := q1; have q2e : r (.tmp 125) = .bool false := q2; exact ⟨⟨_, q2e, rfl⟩, by simp [go_sem, q0e, q1e, C2.out]⟩) ?_
                    refine tab_val (.bool false) (fun r w1 hr hg hA => by obtain ⟨⟨_, q0⟩, ⟨_, q1⟩, -⟩ := hA; have q0e : r (.tmp 125) = .bool false := q0; have q1e : r (.tmp 134) = .bool false := q1; exact ⟨rfl, by simp [go_sem, q0e, q1e]⟩) ?_
                    refine tab_val (.bool false) (fun r w1 hr hg hA => by obtain ⟨⟨_, q0⟩, -⟩ := hA; have q0e : r (.tmp 135) = .bool false := q0; exact ⟨rfl, by simp [go_sem, q0e]⟩) ?_
                    refine tab_val (.slice (some ⟨gn, 0, none⟩) m cn) (fun r w1 hr hg hA => by obtain ⟨q0, ⟨_, q1⟩, -⟩ := hA; have q0e : r (.tmp 7) = .slice (some ⟨gn, 0, none⟩) m cn := q0; have q1e : r (.tmp 136) = .bool false := q1; exact ⟨⟨_, q1e, rfl⟩, by simp [go_sem, q0e]⟩) ?_
                    refine tab_val (.int .i64 (j : Int)) (fun r w1 hr hg hA => by obtain ⟨q0, ⟨_, q1⟩, -⟩ := hA; have q0e : r (.tmp 12) = .int .i64 (j : Int) := q0; have q1e : r (.tmp 136) = .bool false := q1; exact ⟨⟨_, q1e, rfl⟩, by simp [go_sem, q0e]⟩) ?_
                    refine tab_val (.pointer (some ⟨gn, j, none⟩)) (fun r w1 hr hg hA => by obtain ⟨⟨_, q0⟩, ⟨_, q1⟩, ⟨_, q2⟩, -⟩ := hA; have q0e : r (.tmp 137) = .slice (some ⟨gn, 0, none⟩) m cn := q0; have q1e : r (.tmp 138) = .int .i64 (j : Int) := q1; have q2e : r (.tmp 136) = .bool false := q2; exact ⟨⟨_, q2e, rfl⟩, by simp [go_sem, q0e, q1e, hjm2]⟩) ?_
                    refine tab_val (.int .i64 a1) (fun r w1 hr hg hA => by obtain ⟨⟨_, q0⟩, ⟨_, q1⟩, -⟩ := hA; have q0e : r (.tmp 139) = .pointer (some ⟨gn, j, none⟩) := q0; have q1e : r (.tmp 136) = .bool false := q1; have hc := CF.out w1 (hg1.trans hg); exact ⟨⟨_, q1e, rfl⟩, by simp [go_sem, q0e, hc]⟩) ?_
                    refine tab_val (.slice (some ⟨gd, 0, none⟩) m cd) (fun r w1 hr hg hA => by obtain ⟨q0, ⟨_, q1⟩, -⟩ := hA; have q0e : r (.tmp 8) = .slice (some ⟨gd, 0, none⟩) m cd := q0; have q1e : r (.tmp 136) = .bool false := q1; exact ⟨⟨_, q1e, rfl⟩, by simp [go_sem, q0e]⟩) ?_
                    refine tab_val (.int .i64 (k : Int)) (fun r w1 hr hg hA => by obtain ⟨q0, ⟨_, q1⟩, -⟩ := hA; have q0e : r (.tmp 13) = .int .i64 (k : Int) := q0; have q1e : r (.tmp 136) = .bool false := q1; exact ⟨⟨_, q1e, rfl⟩, by simp [go_sem, q0e]⟩) ?_
                    refine tab_val (.pointer (some ⟨gd, k, none⟩)) (fun r w1 hr hg hA => by obtain ⟨⟨_, q0⟩, ⟨_, q1⟩, ⟨_, q2⟩, -⟩ := hA; have q0e : r (.tmp 141) = .slice (some ⟨gd, 0, none⟩) m cd := q0; have q1e : r (.tmp 142) = .int .i64 (k : Int) := q1; have q2e : r (.tmp 136) = .bool false := q2; exact ⟨⟨_, q2e, rfl⟩, by simp [go_sem, q0e, q1e, hkm2]⟩) ?_
                    refine tab_val (.int .i64 c2) (fun r w1 hr hg hA => by obtain ⟨⟨_, q0⟩, ⟨_, q1⟩, -⟩ := hA; have q0e : r (.tmp 143) = .pointer (some ⟨gd, k, none⟩) := q0; have q1e : r (.tmp 136) = .bool false := q1; have hc := CF.out w1 (hg1.trans hg); exact ⟨⟨_, q1e, rfl⟩, by simp [go_sem, q0e, hc]⟩) ?_
                    refine tab_val (.int .i64 (a1 * c2)) (fun r w1 hr hg hA => by obtain ⟨⟨_, q0⟩, ⟨_, q1⟩, ⟨_, q2⟩, -⟩ := hA; have q0e : r (.tmp 140) = .int .i64 a1 := q0; have q1e : r (.tmp 144) = .int .i64 c2 := q1; have q2e : r (.tmp 136) = .bool false := q2; exact ⟨⟨_, q2e, rfl⟩, by simp [go_sem, q0e, q1e, i64w, V1.out]⟩) ?_
                    refine tab_val (.slice (some ⟨gn, 0, none⟩) m cn) (fun r w1 hr hg hA => by obtain ⟨q0, ⟨_, q1⟩, -⟩ := hA; have q0e : r (.tmp 7) = .slice (some ⟨gn, 0, none⟩) m cn := q0; have q1e : r (.tmp 136) = .bool false := q1; exact ⟨⟨_, q1e, rfl⟩, by simp [go_sem, q0e]⟩) ?_
                    refine tab_val (.int .i64 (k : Int)) (fun r w1 hr hg hA => by obtain ⟨q0, ⟨_, q1⟩, -⟩ := hA; have q0e : r (.tmp 13) = .int .i64 (k : Int) := q0; have q1e : r (.tmp 136) = .bool false := q1; exact ⟨⟨_, q1e, rfl⟩, by simp [go_sem, q0e]⟩) ?_
                    refine tab_val (.pointer (some ⟨gn, k, none⟩)) (fun r w1 hr hg hA => by obtain ⟨⟨_, q0⟩, ⟨_, q1⟩, ⟨_, q2⟩, -⟩ := hA; have q0e : r (.tmp 146) = .slice (some ⟨gn, 0, none⟩) m cn := q0; have q1e : r (.tmp 147) = .int .i64 (k : Int) := q1; have q2e : r (.tmp 136) = .bool false := q2; exact ⟨⟨_, q2e, rfl⟩, by simp [go_sem, q0e, q1e, hkm2]⟩) ?_
                    refine tab_val (.int .i64 c1) (fun r w1 hr hg hA => by obtain ⟨⟨_, q0⟩, ⟨_, q1⟩, -⟩ := hA; have q0e : r (.tmp 148) = .pointer (some ⟨gn, k, none⟩) := q0; have q1e : r (.tmp 136) = .bool false := q1; have hc := CF.out w1 (hg1.trans hg); exact ⟨⟨_, q1e, rfl⟩, by simp [go_sem, q0e, hc]⟩) ?_
                    refine tab_val (.slice (some ⟨gd, 0, none⟩) m cd) (fun r w1 hr hg hA => by obtain ⟨q0, ⟨_, q1⟩, -⟩ := hA; have q0e : r (.tmp 8) = .slice (some ⟨gd, 0, none⟩) m cd := q0; have q1e : r (.tmp 136) = .bool false := q1; exact ⟨⟨_, q1e, rfl⟩, by simp [go_sem, q0e]⟩) ?_
                    refine tab_val (.int .i64 (j : Int)) (fun r w1 hr hg hA => by obtain ⟨q0, ⟨_, q1⟩, -⟩ := hA; have q0e : r (.tmp 12) = .int .i64 (j : Int) := q0; have q1e : r (.tmp 136) = .bool false := q1; exact ⟨⟨_, q1e, rfl⟩, by simp [go_sem, q0e]⟩) ?_
                    refine tab_val (.pointer (some ⟨gd, j, none⟩)) (fun r w1 hr hg hA => by obtain ⟨⟨_, q0⟩, ⟨_, q1⟩, ⟨_, q2⟩, -⟩ := hA; have q0e : r (.tmp 150) = .slice (some ⟨gd, 0, none⟩) m cd := q0; have q1e : r (.tmp 151) = .int .i64 (j : Int) := q1; have q2e : r (.tmp 136) = .bool false := q2; exact ⟨⟨_, q2e, rfl⟩, by simp [go_sem, q0e, q1e, hjm2]⟩) ?_
                    refine tab_val (.int .i64 a2) (fun r w1 hr hg hA => by obtain ⟨⟨_, q0⟩, ⟨_, q1⟩, -⟩ := hA; have q0e : r (.tmp 152) = .pointer (some ⟨gd, j, none⟩) := q0; have q1e : r (.tmp 136) = .bool false := q1; have hc := CF.out w1 (hg1.trans hg); exact ⟨⟨_, q1e, rfl⟩, by simp [go_sem, q0e, hc]⟩) ?_
                    refine tab_val (.int .i64 (c1 * a2)) (fun r w1 hr hg hA => by obtain ⟨⟨_, q0⟩, ⟨_, q1⟩, ⟨_, q2⟩, -⟩ := hA; have q0e : r (.tmp 149) = .int .i64 c1 := q0; have q1e : r (.tmp 153) = .int .i64 a2 := q1; have q2e : r (.tmp 136) = .bool false := q2; exact ⟨⟨_, q2e, rfl⟩, by simp [go_sem, q0e, q1e, i64w, V2.out]⟩) ?_
                    refine tab_val (.bool true) (fun r w1 hr hg hA => by obtain ⟨⟨_, q0⟩, ⟨_, q1⟩, ⟨_, q2⟩, -⟩ := hA; have q0e : r (.tmp 145) = .int .i64 (a1 * c2) := q0; have q1e : r (.tmp 154) = .int .i64 (c1 * a2) := q1; have q2e : r (.tmp 136) = .bool false := q2; exact ⟨⟨_, q2e, rfl⟩, by simp [go_sem, q0e, q1e, C3.out]⟩) ?_
                    refine tab_val (.bool true) (fun r w1 hr hg hA => by obtain ⟨⟨_, q0⟩, ⟨_, q1⟩, -⟩ := hA; have q0e : r (.tmp 136) = .bool false := q0; have q1e : r (.tmp 155) = .bool true := q1; exact ⟨rfl, by simp [go_sem, q0e, q1e]⟩) ?_
                    refine tab_end ?_
                    simp only [List.reverse_cons, List.reverse_nil, List.nil_append, List.cons_append, Out, BlockP, forall_eq, forall_const, Act.put, List.setIfInBounds_toArray, List.set_cons_succ, List.set_cons_zero]
                    intro wB hgA
                    have GB : Hid (Grows wr wB) := Lib.hid (hg1.trans hgA)
                    clear hg1 hgA hg1' hw0
                    go_wp2
                    exact ⟨⟨k + 1, by simp, by omega, Lib.hid (fun c hc => (Nat.lt_succ_iff_lt_or_eq.1 hc).elim (fun h => HPK.out c h) (fun h => by rw [h]; exact HE.out)), Lib.hid (G.out.trans (GB.out))⟩, by simp only [intOf]; omega⟩
                  · have HR2 := Lib.hid (pair_rng BU.out BV.out h1 h2 h3)
                    have H1 := Lib.hid (fun w => strict_any px qx a1 a2 c1 c2 lx hx w IP.out.1 IP.out.2.2.1 IP.out.2.2.2.2.1 IP.out.2.2.2.2.2.2.1 HR2.out.1 HR2.out.2.1 BU.out.2.2.1 BU.out.2.2.2 HR2.out.2.2.1 HR2.out.2.2.2 BV.out.2.2.1 BV.out.2.2.2)
                    have H2 := Lib.hid (fun w => strict_any py qy a1 a2 c1 c2 ly hy w IP.out.2.1 IP.out.2.2.2.1 IP.out.2.2.2.2.2.1 IP.out.2.2.2.2.2.2.2 HR2.out.1 HR2.out.2.1 BU.out.2.2.1 BU.out.2.2.2 HR2.out.2.2.1 HR2.out.2.2.2 BV.out.2.2.1 BV.out.2.2.2)
                    have HPR2 : Hid (prL px py qx qy ⟨lx, ly, hx, hy⟩ L j k = (strictB px qx a1 a2 c1 c2 lx hx && strictB py qy a1 a2 c1 c2 ly hy)) := Lib.hid (HPR.out.trans (by rw [decide_eq_true (by omega : 0 ≤ a1), decide_eq_true (by omega : c1 ≤ c2), decide_eq_true (by omega : a1 * c2 < c1 * a2)]; simp))
                    generalize strictB px qx a1 a2 c1 c2 lx hx = s1 at H1 HPR2
                    generalize strictB py qy a1 a2 c1 c2 ly hy = s2 at H2 HPR2
                    have C1 := Lib.hid h1
                    have C2 := Lib.hid h2
                    have C3 := Lib.hid h3
                    clear h1 h2 h3
                    go_wp2_with fail
                    refine wp_region_tab 37 (by kernel_rfl) (by kernel_rfl) ?_
                    intro w0 hw0 hg1 hg1'
                    simp only [List.take_succ_cons, List.take_zero, List.drop_succ_cons, List.drop_zero]
                    refine tab_val (.slice (some ⟨gn, 0, none⟩) m cn) (fun r w1 hr hg hA => by obtain ⟨q0, -⟩ := hA; have q0e : r (.tmp 7) = .slice (some ⟨gn, 0, none⟩) m cn := q0; exact ⟨rfl, by simp [go_sem, q0e]⟩) ?_
                    refine tab_val (.int .i64 (j : Int)) (fun r w1 hr hg hA => by obtain ⟨q0, -⟩ := hA; have q0e : r (.tmp 12) = .int .i64 (j : Int) := q0; exact ⟨rfl, by simp [go_sem, q0e]⟩) ?_
                    refine tab_val (.pointer (some ⟨gn, j, none⟩)) (fun r w1 hr hg hA => by obtain ⟨⟨_, q0⟩, ⟨_, q1⟩, -⟩ := hA; have q0e : r (.tmp 120) = .slice (some ⟨gn, 0, none⟩) m cn := q0; have q1e : r (.tmp 121) = .int .i64 (j : Int) := q1; exact ⟨rfl, by simp [go_sem, q0e, q1e, hjm2]⟩) ?_
                    refine tab_val (.int .i64 a1) (fun r w1 hr hg hA => by obtain ⟨⟨_, q0⟩, -⟩ := hA; have q0e : r (.tmp 122) = .pointer (some ⟨gn, j, none⟩) := q0; have hc := CF.out w1 (hg1.trans hg); exact ⟨rfl, by simp [go_sem, q0e, hc]⟩) ?_
                    refine tab_val (.bool false) (fun r w1 hr hg hA => by obtain ⟨⟨_, q0⟩, -⟩ := hA; have q0e : r (.tmp 123) = .int .i64 a1 := q0; exact ⟨rfl, by simp [go_sem, hr.const, q0e, C1.out]⟩) ?_
                    refine tab_val (.bool false) (fun r w1 hr hg hA => by obtain ⟨⟨_, q0⟩, -⟩ := hA; have q0e : r (.tmp 124) = .bool false := q0; exact ⟨rfl, by simp [go_sem, q0e]⟩) ?_
                    refine tab_val (.slice (some ⟨gn, 0, none⟩) m cn) (fun r w1 hr hg hA => by obtain ⟨q0, ⟨_, q1⟩, -⟩ := hA; have q0e : r (.tmp 7) = .slice (some ⟨gn, 0, none⟩) m cn := q0; have q1e : r (.tmp 125) = .bool false := q1; exact ⟨⟨_, q1e, rfl⟩, by simp [go_sem, q0e]⟩) ?_
                    refine tab_val (.int .i64 (k : Int)) (fun r w1 hr hg hA => by obtain ⟨q0, ⟨_, q1⟩, -⟩ := hA; have q0e : r (.tmp 13) = .int .i64 (k : Int) := q0; have q1e : r (.tmp 125) = .bool false := q1; exact ⟨⟨_, q1e, rfl⟩, by simp [go_sem, q0e]⟩) ?_
                    refine tab_val (.pointer (some ⟨gn, k, none⟩)) (fun r w1 hr hg hA => by obtain ⟨⟨_, q0⟩, ⟨_, q1⟩, ⟨_, q2⟩, -⟩ := hA; have q0e : r (.tmp 126) = .slice (some ⟨gn, 0, none⟩) m cn := q0; have q1e : r (.tmp 127) = .int .i64 (k : Int) := q1; have q2e : r (.tmp 125) = .bool false := q2; exact ⟨⟨_, q2e, rfl⟩, by simp [go_sem, q0e, q1e, hkm2]⟩) ?_
                    refine tab_val (.int .i64 c1) (fun r w1 hr hg hA => by obtain ⟨⟨_, q0⟩, ⟨_, q1⟩, -⟩ := hA; have q0e : r (.tmp 128) = .pointer (some ⟨gn, k, none⟩) := q0; have q1e : r (.tmp 125) = .bool false := q1; have hc := CF.out w1 (hg1.trans hg); exact ⟨⟨_, q1e, rfl⟩, by simp [go_sem, q0e, hc]⟩) ?_
                    refine tab_val (.slice (some ⟨gd, 0, none⟩) m cd) (fun r w1 hr hg hA => by obtain ⟨q0, ⟨_, q1⟩, -⟩ := hA; have q0e : r (.tmp 8) = .slice (some ⟨gd, 0, none⟩) m cd := q0; have q1e : r (.tmp 125) = .bool false := q1; exact ⟨⟨_, q1e, rfl⟩, by simp [go_sem, q0e]⟩) ?_
                    refine tab_val (.int .i64 (k : Int)) (fun r w1 hr hg hA => by obtain ⟨q0, ⟨_, q1⟩, -⟩ := hA; have q0e : r (.tmp 13) = .int .i64 (k : Int) := q0; have q1e : r (.tmp 125) = .bool false := q1; exact ⟨⟨_, q1e, rfl⟩, by simp [go_sem, q0e]⟩) ?_
                    refine tab_val (.pointer (some ⟨gd, k, none⟩)) (fun r w1 hr hg hA => by obtain ⟨⟨_, q0⟩, ⟨_, q1⟩, ⟨_, q2⟩, -⟩ := hA; have q0e : r (.tmp 130) = .slice (some ⟨gd, 0, none⟩) m cd := q0; have q1e : r (.tmp 131) = .int .i64 (k : Int) := q1; have q2e : r (.tmp 125) = .bool false := q2; exact ⟨⟨_, q2e, rfl⟩, by simp [go_sem, q0e, q1e, hkm2]⟩) ?_
                    refine tab_val (.int .i64 c2) (fun r w1 hr hg hA => by obtain ⟨⟨_, q0⟩, ⟨_, q1⟩, -⟩ := hA; have q0e : r (.tmp 132) = .pointer (some ⟨gd, k, none⟩) := q0; have q1e : r (.tmp 125) = .bool false := q1; have hc := CF.out w1 (hg1.trans hg); exact ⟨⟨_, q1e, rfl⟩, by simp [go_sem, q0e, hc]⟩) ?_
                    refine tab_val (.bool false) (fun r w1 hr hg hA => by obtain ⟨⟨_, q0⟩, ⟨_, q1⟩, ⟨_, q2⟩, -⟩ := hA; have q0e : r (.tmp 129) = .int .i64 c1 := q0; have q1e : r (.tmp 133) = .int .i64 c2 := q1; have q2e : r (.tmp 125) = .bool false := q2; exact ⟨⟨_, q2e, rfl⟩, by simp [go_sem, q0e, q1e, C2.out]⟩) ?_
                    refine tab_val (.bool false) (fun r w1 hr hg hA => by obtain ⟨⟨_, q0⟩, ⟨_, q1⟩, -⟩ := hA; have q0e : r (.tmp 125) = .bool false := q0; have q1e : r (.tmp 134) = .bool false := q1; exact ⟨rfl, by simp [go_sem, q0e, q1e]⟩) ?_
                    refine tab_val (.bool false) (fun r w1 hr hg hA => by obtain ⟨⟨_, q0⟩, -⟩ := hA; have q0e : r (.tmp 135) = .bool false := q0; exact ⟨rfl, by simp [go_sem, q0e]⟩) ?_
                    refine tab_val (.slice (some ⟨gn, 0, none⟩) m cn) (fun r w1 hr hg hA => by obtain ⟨q0, ⟨_, q1⟩, -⟩ := hA; have q0e : r (.tmp 7) = .slice (some ⟨gn, 0, none⟩) m cn := q0; have q1e : r (.tmp 136) = .bool false := q1; exact ⟨⟨_, q1e, rfl⟩, by simp [go_sem, q0e]⟩) ?_
                    refine tab_val (.int .i64 (j : Int)) (fun r w1 hr hg hA => by obtain ⟨q0, ⟨_, q1⟩, -⟩ := hA; have q0e : r (.tmp 12) = .int .i64 (j : Int) := q0; have q1e : r (.tmp 136) = .bool false := q1; exact ⟨⟨_, q1e, rfl⟩, by simp [go_sem, q0e]⟩) ?_
                    refine tab_val (.pointer (some ⟨gn, j, none⟩)) (fun r w1 hr hg hA => by obtain ⟨⟨_, q0⟩, ⟨_, q1⟩, ⟨_, q2⟩, -⟩ := hA; have q0e : r (.tmp 137) = .slice (some ⟨gn, 0, none⟩) m cn := q0; have q1e : r (.tmp 138) = .int .i64 (j : Int) := q1; have q2e : r (.tmp 136) = .bool false := q2; exact ⟨⟨_, q2e, rfl⟩, by simp [go_sem, q0e, q1e, hjm2]⟩) ?_
                    refine tab_val (.int .i64 a1) (fun r w1 hr hg hA => by obtain ⟨⟨_, q0⟩, ⟨_, q1⟩, -⟩ := hA; have q0e : r (.tmp 139) = .pointer (some ⟨gn, j, none⟩) := q0; have q1e : r (.tmp 136) = .bool false := q1; have hc := CF.out w1 (hg1.trans hg); exact ⟨⟨_, q1e, rfl⟩, by simp [go_sem, q0e, hc]⟩) ?_
                    refine tab_val (.slice (some ⟨gd, 0, none⟩) m cd) (fun r w1 hr hg hA => by obtain ⟨q0, ⟨_, q1⟩, -⟩ := hA; have q0e : r (.tmp 8) = .slice (some ⟨gd, 0, none⟩) m cd := q0; have q1e : r (.tmp 136) = .bool false := q1; exact ⟨⟨_, q1e, rfl⟩, by simp [go_sem, q0e]⟩) ?_
                    refine tab_val (.int .i64 (k : Int)) (fun r w1 hr hg hA => by obtain ⟨q0, ⟨_, q1⟩, -⟩ := hA; have q0e : r (.tmp 13) = .int .i64 (k : Int) := q0; have q1e : r (.tmp 136) = .bool false := q1; exact ⟨⟨_, q1e, rfl⟩, by simp [go_sem, q0e]⟩) ?_
                    refine tab_val (.pointer (some ⟨gd, k, none⟩)) (fun r w1 hr hg hA => by obtain ⟨⟨_, q0⟩, ⟨_, q1⟩, ⟨_, q2⟩, -⟩ := hA; have q0e : r (.tmp 141) = .slice (some ⟨gd, 0, none⟩) m cd := q0; have q1e : r (.tmp 142) = .int .i64 (k : Int) := q1; have q2e : r (.tmp 136) = .bool false := q2; exact ⟨⟨_, q2e, rfl⟩, by simp [go_sem, q0e, q1e, hkm2]⟩) ?_
                    refine tab_val (.int .i64 c2) (fun r w1 hr hg hA => by obtain ⟨⟨_, q0⟩, ⟨_, q1⟩, -⟩ := hA; have q0e : r (.tmp 143) = .pointer (some ⟨gd, k, none⟩) := q0; have q1e : r (.tmp 136) = .bool false := q1; have hc := CF.out w1 (hg1.trans hg); exact ⟨⟨_, q1e, rfl⟩, by simp [go_sem, q0e, hc]⟩) ?_
                    refine tab_val (.int .i64 (a1 * c2)) (fun r w1 hr hg hA => by obtain ⟨⟨_, q0⟩, ⟨_, q1⟩, ⟨_, q2⟩, -⟩ := hA; have q0e : r (.tmp 140) = .int .i64 a1 := q0; have q1e : r (.tmp 144) = .int .i64 c2 := q1; have q2e : r (.tmp 136) = .bool false := q2; exact ⟨⟨_, q2e, rfl⟩, by simp [go_sem, q0e, q1e, i64w, V1.out]⟩) ?_
                    refine tab_val (.slice (some ⟨gn, 0, none⟩) m cn) (fun r w1 hr hg hA => by obtain ⟨q0, ⟨_, q1⟩, -⟩ := hA; have q0e : r (.tmp 7) = .slice (some ⟨gn, 0, none⟩) m cn := q0; have q1e : r (.tmp 136) = .bool false := q1; exact ⟨⟨_, q1e, rfl⟩, by simp [go_sem, q0e]⟩) ?_
                    refine tab_val (.int .i64 (k : Int)) (fun r w1 hr hg hA => by obtain ⟨q0, ⟨_, q1⟩, -⟩ := hA; have q0e : r (.tmp 13) = .int .i64 (k : Int) := q0; have q1e : r (.tmp 136) = .bool false := q1; exact ⟨⟨_, q1e, rfl⟩, by simp [go_sem, q0e]⟩) ?_
                    refine tab_val (.pointer (some ⟨gn, k, none⟩)) (fun r w1 hr hg hA => by obtain ⟨⟨_, q0⟩, ⟨_, q1⟩, ⟨_, q2⟩, -⟩ := hA; have q0e : r (.tmp 146) = .slice (some ⟨gn, 0, none⟩) m cn := q0; have q1e : r (.tmp 147) = .int .i64 (k : Int) := q1; have q2e : r (.tmp 136) = .bool false := q2; exact ⟨⟨_, q2e, rfl⟩, by simp [go_sem, q0e, q1e, hkm2]⟩) ?_
                    refine tab_val (.int .i64 c1) (fun r w1 hr hg hA => by obtain ⟨⟨_, q0⟩, ⟨_, q1⟩, -⟩ := hA; have q0e : r (.tmp 148) = .pointer (some ⟨gn, k, none⟩) := q0; have q1e : r (.tmp 136) = .bool false := q1; have hc := CF.out w1 (hg1.trans hg); exact ⟨⟨_, q1e, rfl⟩, by simp [go_sem, q0e, hc]⟩) ?_
                    refine tab_val (.slice (some ⟨gd, 0, none⟩) m cd) (fun r w1 hr hg hA => by obtain ⟨q0, ⟨_, q1⟩, -⟩ := hA; have q0e : r (.tmp 8) = .slice (some ⟨gd, 0, none⟩) m cd := q0; have q1e : r (.tmp 136) = .bool false := q1; exact ⟨⟨_, q1e, rfl⟩, by simp [go_sem, q0e]⟩) ?_
                    refine tab_val (.int .i64 (j : Int)) (fun r w1 hr hg hA => by obtain ⟨q0, ⟨_, q1⟩, -⟩ := hA; have q0e : r (.tmp 12) = .int .i64 (j : Int) := q0; have q1e : r (.tmp 136) = .bool false := q1; exact ⟨⟨_, q1e, rfl⟩, by simp [go_sem, q0e]⟩) ?_
                    refine tab_val (.pointer (some ⟨gd, j, none⟩)) (fun r w1 hr hg hA => by obtain ⟨⟨_, q0⟩, ⟨_, q1⟩, ⟨_, q2⟩, -⟩ := hA; have q0e : r (.tmp 150) = .slice (some ⟨gd, 0, none⟩) m cd := q0; have q1e : r (.tmp 151) = .int .i64 (j : Int) := q1; have q2e : r (.tmp 136) = .bool false := q2; exact ⟨⟨_, q2e, rfl⟩, by simp [go_sem, q0e, q1e, hjm2]⟩) ?_
                    refine tab_val (.int .i64 a2) (fun r w1 hr hg hA => by obtain ⟨⟨_, q0⟩, ⟨_, q1⟩, -⟩ := hA; have q0e : r (.tmp 152) = .pointer (some ⟨gd, j, none⟩) := q0; have q1e : r (.tmp 136) = .bool false := q1; have hc := CF.out w1 (hg1.trans hg); exact ⟨⟨_, q1e, rfl⟩, by simp [go_sem, q0e, hc]⟩) ?_
                    refine tab_val (.int .i64 (c1 * a2)) (fun r w1 hr hg hA => by obtain ⟨⟨_, q0⟩, ⟨_, q1⟩, ⟨_, q2⟩, -⟩ := hA; have q0e : r (.tmp 149) = .int .i64 c1 := q0; have q1e : r (.tmp 153) = .int .i64 a2 := q1; have q2e : r (.tmp 136) = .bool false := q2; exact ⟨⟨_, q2e, rfl⟩, by simp [go_sem, q0e, q1e, i64w, V2.out]⟩) ?_
                    refine tab_val (.bool false) (fun r w1 hr hg hA => by obtain ⟨⟨_, q0⟩, ⟨_, q1⟩, ⟨_, q2⟩, -⟩ := hA; have q0e : r (.tmp 145) = .int .i64 (a1 * c2) := q0; have q1e : r (.tmp 154) = .int .i64 (c1 * a2) := q1; have q2e : r (.tmp 136) = .bool false := q2; exact ⟨⟨_, q2e, rfl⟩, by simp [go_sem, q0e, q1e, C3.out]⟩) ?_
                    refine tab_val (.bool false) (fun r w1 hr hg hA => by obtain ⟨⟨_, q0⟩, ⟨_, q1⟩, -⟩ := hA; have q0e : r (.tmp 136) = .bool false := q0; have q1e : r (.tmp 155) = .bool false := q1; exact ⟨rfl, by simp [go_sem, q0e, q1e]⟩) ?_
                    refine tab_end ?_
                    simp only [List.reverse_cons, List.reverse_nil, List.nil_append, List.cons_append, Out, BlockP, forall_eq, forall_const, Act.put, List.setIfInBounds_toArray, List.set_cons_succ, List.set_cons_zero]
                    intro wB hgA
                    have GB : Hid (Grows wr wB) := Lib.hid (hg1.trans hgA)
                    clear hg1 hgA hg1' hw0
                    go_wp2_with fail
                    cases s1 with
                    | false =>
                      have HE : Hid (prL px py qx qy ⟨lx, ly, hx, hy⟩ L j k = false) := HPR2
                      refine wp_region_tab 56 (by kernel_rfl) (by kernel_rfl) ?_
                      intro w0 hw0 hg1 hg1'
                      simp only [List.take_succ_cons, List.take_zero, List.drop_succ_cons, List.drop_zero]
                      refine tab_val (.pointer (some ⟨w.heap.size, 0, none⟩)) (fun r w1 hr hg hA => by obtain ⟨q0, -⟩ := hA; have q0e : r (.tmp 3) = .pointer (some ⟨w.heap.size, 0, none⟩) := q0; exact ⟨rfl, by simp [go_sem, q0e]⟩) ?_
                      refine tab_val (.int .i64 px) (fun r w1 hr hg hA => by obtain ⟨⟨_, q0⟩, -⟩ := hA; have q0e : r (.tmp 157) = .pointer (some ⟨w.heap.size, 0, none⟩) := q0; have hc := CF.out w1 (GB.out.trans (hg1.trans hg)); exact ⟨rfl, by simp [go_sem, q0e, hc]⟩) ?_
                      refine tab_val (.pointer (some ⟨w.heap.size + 1, 0, none⟩)) (fun r w1 hr hg hA => by obtain ⟨q0, -⟩ := hA; have q0e : r (.tmp 4) = .pointer (some ⟨w.heap.size + 1, 0, none⟩) := q0; exact ⟨rfl, by simp [go_sem, q0e]⟩) ?_
                      refine tab_val (.int .i64 qx) (fun r w1 hr hg hA => by obtain ⟨⟨_, q0⟩, -⟩ := hA; have q0e : r (.tmp 159) = .pointer (some ⟨w.heap.size + 1, 0, none⟩) := q0; have hc := CF.out w1 (GB.out.trans (hg1.trans hg)); exact ⟨rfl, by simp [go_sem, q0e, hc]⟩) ?_
                      refine tab_val (.slice (some ⟨gn, 0, none⟩) m cn) (fun r w1 hr hg hA => by obtain ⟨q0, -⟩ := hA; have q0e : r (.tmp 7) = .slice (some ⟨gn, 0, none⟩) m cn := q0; exact ⟨rfl, by simp [go_sem, q0e]⟩) ?_
                      refine tab_val (.int .i64 (j : Int)) (fun r w1 hr hg hA => by obtain ⟨q0, -⟩ := hA; have q0e : r (.tmp 12) = .int .i64 (j : Int) := q0; exact ⟨rfl, by simp [go_sem, q0e]⟩) ?_
                      refine tab_val (.pointer (some ⟨gn, j, none⟩)) (fun r w1 hr hg hA => by obtain ⟨⟨_, q0⟩, ⟨_, q1⟩, -⟩ := hA; have q0e : r (.tmp 161) = .slice (some ⟨gn, 0, none⟩) m cn := q0; have q1e : r (.tmp 162) = .int .i64 (j : Int) := q1; exact ⟨rfl, by simp [go_sem, q0e, q1e, hjm2]⟩) ?_
                      refine tab_val (.int .i64 a1) (fun r w1 hr hg hA => by obtain ⟨⟨_, q0⟩, -⟩ := hA; have q0e : r (.tmp 163) = .pointer (some ⟨gn, j, none⟩) := q0; have hc := CF.out w1 (GB.out.trans (hg1.trans hg)); exact ⟨rfl, by simp [go_sem, q0e, hc]⟩) ?_
                      refine tab_val (.slice (some ⟨gd, 0, none⟩) m cd) (fun r w1 hr hg hA => by obtain ⟨q0, -⟩ := hA; have q0e : r (.tmp 8) = .slice (some ⟨gd, 0, none⟩) m cd := q0; exact ⟨rfl, by simp [go_sem, q0e]⟩) ?_
                      refine tab_val (.int .i64 (j : Int)) (fun r w1 hr hg hA => by obtain ⟨q0, -⟩ := hA; have q0e : r (.tmp 12) = .int .i64 (j : Int) := q0; exact ⟨rfl, by simp [go_sem, q0e]⟩) ?_
                      refine tab_val (.pointer (some ⟨gd, j, none⟩)) (fun r w1 hr hg hA => by obtain ⟨⟨_, q0⟩, ⟨_, q1⟩, -⟩ := hA; have q0e : r (.tmp 165) = .slice (some ⟨gd, 0, none⟩) m cd := q0; have q1e : r (.tmp 166) = .int .i64 (j : Int) := q1; exact ⟨rfl, by simp [go_sem, q0e, q1e, hjm2]⟩) ?_
                      refine tab_val (.int .i64 a2) (fun r w1 hr hg hA => by obtain ⟨⟨_, q0⟩, -⟩ := hA; have q0e : r (.tmp 167) = .pointer (some ⟨gd, j, none⟩) := q0; have hc := CF.out w1 (GB.out.trans (hg1.trans hg)); exact ⟨rfl, by simp [go_sem, q0e, hc]⟩) ?_
                      refine tab_val (.slice (some ⟨gn, 0, none⟩) m cn) (fun r w1 hr hg hA => by obtain ⟨q0, -⟩ := hA; have q0e : r (.tmp 7) = .slice (some ⟨gn, 0, none⟩) m cn := q0; exact ⟨rfl, by simp [go_sem, q0e]⟩) ?_
                      refine tab_val (.int .i64 (k : Int)) (fun r w1 hr hg hA => by obtain ⟨q0, -⟩ := hA; have q0e : r (.tmp 13) = .int .i64 (k : Int) := q0; exact ⟨rfl, by simp [go_sem, q0e]⟩) ?_
                      refine tab_val (.pointer (some ⟨gn, k, none⟩)) (fun r w1 hr hg hA => by obtain ⟨⟨_, q0⟩, ⟨_, q1⟩, -⟩ := hA; have q0e : r (.tmp 169) = .slice (some ⟨gn, 0, none⟩) m cn := q0; have q1e : r (.tmp 170) = .int .i64 (k : Int) := q1; exact ⟨rfl, by simp [go_sem, q0e, q1e, hkm2]⟩) ?_
                      refine tab_val (.int .i64 c1) (fun r w1 hr hg hA => by obtain ⟨⟨_, q0⟩, -⟩ := hA; have q0e : r (.tmp 171) = .pointer (some ⟨gn, k, none⟩) := q0; have hc := CF.out w1 (GB.out.trans (hg1.trans hg)); exact ⟨rfl, by simp [go_sem, q0e, hc]⟩) ?_
                      refine tab_val (.slice (some ⟨gd, 0, none⟩) m cd) (fun r w1 hr hg hA => by obtain ⟨q0, -⟩ := hA; have q0e : r (.tmp 8) = .slice (some ⟨gd, 0, none⟩) m cd := q0; exact ⟨rfl, by simp [go_sem, q0e]⟩) ?_
                      refine tab_val (.int .i64 (k : Int)) (fun r w1 hr hg hA => by obtain ⟨q0, -⟩ := hA; have q0e : r (.tmp 13) = .int .i64 (k : Int) := q0; exact ⟨rfl, by simp [go_sem, q0e]⟩) ?_
                      refine tab_val (.pointer (some ⟨gd, k, none⟩)) (fun r w1 hr hg hA => by obtain ⟨⟨_, q0⟩, ⟨_, q1⟩, -⟩ := hA; have q0e : r (.tmp 173) = .slice (some ⟨gd, 0, none⟩) m cd := q0; have q1e : r (.tmp 174) = .int .i64 (k : Int) := q1; exact ⟨rfl, by simp [go_sem, q0e, q1e, hkm2]⟩) ?_
                      refine tab_val (.int .i64 c2) (fun r w1 hr hg hA => by obtain ⟨⟨_, q0⟩, -⟩ := hA; have q0e : r (.tmp 175) = .pointer (some ⟨gd, k, none⟩) := q0; have hc := CF.out w1 (GB.out.trans (hg1.trans hg)); exact ⟨rfl, by simp [go_sem, q0e, hc]⟩) ?_
                      refine tab_val (.pointer (some ⟨w.heap.size + 2, 0, none⟩)) (fun r w1 hr hg hA => by obtain ⟨q0, -⟩ := hA; have q0e : r (.tmp 5) = .pointer (some ⟨w.heap.size + 2, 0, none⟩) := q0; exact ⟨rfl, by simp [go_sem, q0e]⟩) ?_
                      refine tab_val (.pointer (some ⟨w.heap.size + 2, 0, none⟩)) (fun r w1 hr hg hA => by obtain ⟨⟨_, q0⟩, -⟩ := hA; have q0e : r (.tmp 177) = .pointer (some ⟨w.heap.size + 2, 0, none⟩) := q0; exact ⟨rfl, by simp [go_sem, q0e]⟩) ?_
                      refine tab_val (.int .i64 lx) (fun r w1 hr hg hA => by obtain ⟨⟨_, q0⟩, -⟩ := hA; have q0e : r (.tmp 178) = .pointer (some ⟨w.heap.size + 2, 0, none⟩) := q0; have hc := CF.out w1 (GB.out.trans (hg1.trans hg)); exact ⟨rfl, by simp [go_sem, q0e, hc]⟩) ?_
                      refine tab_val (.pointer (some ⟨w.heap.size + 2, 2, none⟩)) (fun r w1 hr hg hA => by obtain ⟨q0, -⟩ := hA; have q0e : r (.tmp 5) = .pointer (some ⟨w.heap.size + 2, 0, none⟩) := q0; exact ⟨rfl, by simp [go_sem, q0e]⟩) ?_
                      refine tab_val (.pointer (some ⟨w.heap.size + 2, 2, none⟩)) (fun r w1 hr hg hA => by obtain ⟨⟨_, q0⟩, -⟩ := hA; have q0e : r (.tmp 180) = .pointer (some ⟨w.heap.size + 2, 2, none⟩) := q0; exact ⟨rfl, by simp [go_sem, q0e]⟩) ?_
                      refine tab_val (.int .i64 hx) (fun r w1 hr hg hA => by obtain ⟨⟨_, q0⟩, -⟩ := hA; have q0e : r (.tmp 181) = .pointer (some ⟨w.heap.size + 2, 2, none⟩) := q0; have hc := CF.out w1 (GB.out.trans (hg1.trans hg)); exact ⟨rfl, by simp [go_sem, q0e, hc]⟩) ?_
                      refine tab_call (v := .bool false) (fun w1 hg => H1.out w1) (fun r w1 hr hg hA => by obtain ⟨⟨_, q0⟩, ⟨_, q1⟩, ⟨_, q2⟩, ⟨_, q3⟩, ⟨_, q4⟩, ⟨_, q5⟩, ⟨_, q6⟩, ⟨_, q7⟩, -⟩ := hA; have q0e : r (.tmp 158) = .int .i64 px := q0; have q1e : r (.tmp 160) = .int .i64 qx := q1; have q2e : r (.tmp 164) = .int .i64 a1 := q2; have q3e : r (.tmp 168) = .int .i64 a2 := q3; have q4e : r (.tmp 172) = .int .i64 c1 := q4; have q5e : r (.tmp 176) = .int .i64 c2 := q5; have q6e : r (.tmp 179) = .int .i64 lx := q6; have q7e : r (.tmp 182) = .int .i64 hx := q7; exact ⟨rfl, by simp [go_sem, hr.func, q0e, q1e, q2e, q3e, q4e, q5e, q6e, q7e]⟩) ?_
                      refine tab_val (.bool false) (fun r w1 hr hg hA => by obtain ⟨⟨_, q0⟩, -⟩ := hA; have q0e : r (.tmp 183) = .bool false := q0; exact ⟨rfl, by simp [go_sem, q0e]⟩) ?_
                      refine tab_skip (fun r w1 hr hg hA => by obtain ⟨q0, ⟨_, q1⟩, -⟩ := hA; have q0e : r (.tmp 3) = .pointer (some ⟨w.heap.size, 0, none⟩) := q0; have q1e : r (.tmp 184) = .bool false := q1; exact ⟨_, q1e, rfl⟩) ?_
                      refine tab_skip (fun r w1 hr hg hA => by obtain ⟨⟨_, q0⟩, ⟨_, q1⟩, -⟩ := hA; have q0e : r (.tmp 185) = undef := q0; have q1e : r (.tmp 184) = .bool false := q1; exact ⟨_, q1e, rfl⟩) ?_
                      refine tab_skip (fun r w1 hr hg hA => by obtain ⟨q0, ⟨_, q1⟩, -⟩ := hA; have q0e : r (.tmp 4) = .pointer (some ⟨w.heap.size + 1, 0, none⟩) := q0; have q1e : r (.tmp 184) = .bool false := q1; exact ⟨_, q1e, rfl⟩) ?_
                      refine tab_skip (fun r w1 hr hg hA => by obtain ⟨⟨_, q0⟩, ⟨_, q1⟩, -⟩ := hA; have q0e : r (.tmp 187) = undef := q0; have q1e : r (.tmp 184) = .bool false := q1; exact ⟨_, q1e, rfl⟩) ?_
                      refine tab_skip (fun r w1 hr hg hA => by obtain ⟨q0, ⟨_, q1⟩, -⟩ := hA; have q0e : r (.tmp 7) = .slice (some ⟨gn, 0, none⟩) m cn := q0; have q1e : r (.tmp 184) = .bool false := q1; exact ⟨_, q1e, rfl⟩) ?_
                      refine tab_skip (fun r w1 hr hg hA => by obtain ⟨q0, ⟨_, q1⟩, -⟩ := hA; have q0e : r (.tmp 12) = .int .i64 (j : Int) := q0; have q1e : r (.tmp 184) = .bool false := q1; exact ⟨_, q1e, rfl⟩) ?_
                      refine tab_skip (fun r w1 hr hg hA => by obtain ⟨⟨_, q0⟩, ⟨_, q1⟩, ⟨_, q2⟩, -⟩ := hA; have q0e : r (.tmp 189) = undef := q0; have q1e : r (.tmp 190) = undef := q1; have q2e : r (.tmp 184) = .bool false := q2; exact ⟨_, q2e, rfl⟩) ?_
                      refine tab_skip (fun r w1 hr hg hA => by obtain ⟨⟨_, q0⟩, ⟨_, q1⟩, -⟩ := hA; have q0e : r (.tmp 191) = undef := q0; have q1e : r (.tmp 184) = .bool false := q1; exact ⟨_, q1e, rfl⟩) ?_
                      refine tab_skip (fun r w1 hr hg hA => by obtain ⟨q0, ⟨_, q1⟩, -⟩ := hA; have q0e : r (.tmp 8) = .slice (some ⟨gd, 0, none⟩) m cd := q0; have q1e : r (.tmp 184) = .bool false := q1; exact ⟨_, q1e, rfl⟩) ?_
                      refine tab_skip (fun r w1 hr hg hA => by obtain ⟨q0, ⟨_, q1⟩, -⟩ := hA; have q0e : r (.tmp 12) = .int .i64 (j : Int) := q0; have q1e : r (.tmp 184) = .bool false := q1; exact ⟨_, q1e, rfl⟩) ?_
                      refine tab_skip (fun r w1 hr hg hA => by obtain ⟨⟨_, q0⟩, ⟨_, q1⟩, ⟨_, q2⟩, -⟩ := hA; have q0e : r (.tmp 193) = undef := q0; have q1e : r (.tmp 194) = undef := q1; have q2e : r (.tmp 184) = .bool false := q2; exact ⟨_, q2e, rfl⟩) ?_
                      refine tab_skip (fun r w1 hr hg hA => by obtain ⟨⟨_, q0⟩, ⟨_, q1⟩, -⟩ := hA; have q0e : r (.tmp 195) = undef := q0; have q1e : r (.tmp 184) = .bool false := q1; exact ⟨_, q1e, rfl⟩) ?_
                      refine tab_skip (fun r w1 hr hg hA => by obtain ⟨q0, ⟨_, q1⟩, -⟩ := hA; have q0e : r (.tmp 7) = .slice (some ⟨gn, 0, none⟩) m cn := q0; have q1e : r (.tmp 184) = .bool false := q1; exact ⟨_, q1e, rfl⟩) ?_
                      refine tab_skip (fun r w1 hr hg hA => by obtain ⟨q0, ⟨_, q1⟩, -⟩ := hA; have q0e : r (.tmp 13) = .int .i64 (k : Int) := q0; have q1e : r (.tmp 184) = .bool false := q1; exact ⟨_, q1e, rfl⟩) ?_
                      refine tab_skip (fun r w1 hr hg hA => by obtain ⟨⟨_, q0⟩, ⟨_, q1⟩, ⟨_, q2⟩, -⟩ := hA; have q0e : r (.tmp 197) = undef := q0; have q1e : r (.tmp 198) = undef := q1; have q2e : r (.tmp 184) = .bool false := q2; exact ⟨_, q2e, rfl⟩) ?_
                      refine tab_skip (fun r w1 hr hg hA => by obtain ⟨⟨_, q0⟩, ⟨_, q1⟩, -⟩ := hA; have q0e : r (.tmp 199) = undef := q0; have q1e : r (.tmp 184) = .bool false := q1; exact ⟨_, q1e, rfl⟩) ?_
                      refine tab_skip (fun r w1 hr hg hA => by obtain ⟨q0, ⟨_, q1⟩, -⟩ := hA; have q0e : r (.tmp 8) = .slice (some ⟨gd, 0, none⟩) m cd := q0; have q1e : r (.tmp 184) = .bool false := q1; exact ⟨_, q1e, rfl⟩) ?_
                      refine tab_skip (fun r w1 hr hg hA => by obtain ⟨q0, ⟨_, q1⟩, -⟩ := hA; have q0e : r (.tmp 13) = .int .i64 (k : Int) := q0; have q1e : r (.tmp 184) = .bool false := q1; exact ⟨_, q1e, rfl⟩) ?_
                      refine tab_skip (fun r w1 hr hg hA => by obtain ⟨⟨_, q0⟩, ⟨_, q1⟩, ⟨_, q2⟩, -⟩ := hA; have q0e : r (.tmp 201) = undef := q0; have q1e : r (.tmp 202) = undef := q1; have q2e : r (.tmp 184) = .bool false := q2; exact ⟨_, q2e, rfl⟩) ?_
                      refine tab_skip (fun r w1 hr hg hA => by obtain ⟨⟨_, q0⟩, ⟨_, q1⟩, -⟩ := hA; have q0e : r (.tmp 203) = undef := q0; have q1e : r (.tmp 184) = .bool false := q1; exact ⟨_, q1e, rfl⟩) ?_
                      refine tab_skip (fun r w1 hr hg hA => by obtain ⟨q0, ⟨_, q1⟩, -⟩ := hA; have q0e : r (.tmp 5) = .pointer (some ⟨w.heap.size + 2, 0, none⟩) := q0; have q1e : r (.tmp 184) = .bool false := q1; exact ⟨_, q1e, rfl⟩) ?_
                      refine tab_skip (fun r w1 hr hg hA => by obtain ⟨⟨_, q0⟩, ⟨_, q1⟩, -⟩ := hA; have q0e : r (.tmp 205) = undef := q0; have q1e : r (.tmp 184) = .bool false := q1; exact ⟨_, q1e, rfl⟩) ?_
                      refine tab_skip (fun r w1 hr hg hA => by obtain ⟨⟨_, q0⟩, ⟨_, q1⟩, -⟩ := hA; have q0e : r (.tmp 206) = undef := q0; have q1e : r (.tmp 184) = .bool false := q1; exact ⟨_, q1e, rfl⟩) ?_
                      refine tab_skip (fun r w1 hr hg hA => by obtain ⟨q0, ⟨_, q1⟩, -⟩ := hA; have q0e : r (.tmp 5) = .pointer (some ⟨w.heap.size + 2, 0, none⟩) := q0; have q1e : r (.tmp 184) = .bool false := q1; exact ⟨_, q1e, rfl⟩) ?_
                      refine tab_skip (fun r w1 hr hg hA => by obtain ⟨⟨_, q0⟩, ⟨_, q1⟩, -⟩ := hA; have q0e : r (.tmp 208) = undef := q0; have q1e : r (.tmp 184) = .bool false := q1; exact ⟨_, q1e, rfl⟩) ?_
                      refine tab_skip (fun r w1 hr hg hA => by obtain ⟨⟨_, q0⟩, ⟨_, q1⟩, -⟩ := hA; have q0e : r (.tmp 209) = undef := q0; have q1e : r (.tmp 184) = .bool false := q1; exact ⟨_, q1e, rfl⟩) ?_
                      refine tab_skip (fun r w1 hr hg hA => by obtain ⟨⟨_, q0⟩, ⟨_, q1⟩, ⟨_, q2⟩, ⟨_, q3⟩, ⟨_, q4⟩, ⟨_, q5⟩, ⟨_, q6⟩, ⟨_, q7⟩, ⟨_, q8⟩, -⟩ := hA; have q0e : r (.tmp 186) = undef := q0; have q1e : r (.tmp 188) = undef := q1; have q2e : r (.tmp 192) = undef := q2; have q3e : r (.tmp 196) = undef := q3; have q4e : r (.tmp 200) = undef := q4; have q5e : r (.tmp 204) = undef := q5; have q6e : r (.tmp 207) = undef := q6; have q7e : r (.tmp 210) = undef := q7; have q8e : r (.tmp 184) = .bool false := q8; exact ⟨_, q8e, rfl⟩) ?_
                      refine tab_val (.bool false) (fun r w1 hr hg hA => by obtain ⟨⟨_, q0⟩, ⟨_, q1⟩, -⟩ := hA; have q0e : r (.tmp 184) = .bool false := q0; have q1e : r (.tmp 211) = undef := q1; exact ⟨rfl, by simp [go_sem, hr.const, q0e]⟩) ?_
                      refine tab_end ?_
                      simp only [List.reverse_cons, List.reverse_nil, List.nil_append, List.cons_append, Out, BlockP, forall_eq, forall_const, Act.put, List.setIfInBounds_toArray, List.set_cons_succ, List.set_cons_zero]
                      intro wC hgA
                      have GC : Hid (Grows wB wC) := Lib.hid (hg1.trans hgA)
                      clear hg1 hgA hg1' hw0
                      go_wp2
                      exact ⟨⟨k + 1, by simp, by omega, Lib.hid (fun c hc => (Nat.lt_succ_iff_lt_or_eq.1 hc).elim (fun h => HPK.out c h) (fun h => by rw [h]; exact HE.out)), Lib.hid (G.out.trans (GB.out.trans GC.out))⟩, by simp only [intOf]; omega⟩
                    | true =>
                      cases s2 with
                      | false =>
                        have HE : Hid (prL px py qx qy ⟨lx, ly, hx, hy⟩ L j k = false) := HPR2
                        refine wp_region_tab 56 (by kernel_rfl) (by kernel_rfl) ?_
                        intro w0 hw0 hg1 hg1'
                        simp only [List.take_succ_cons, List.take_zero, List.drop_succ_cons, List.drop_zero]
                        refine tab_val (.pointer (some ⟨w.heap.size, 0, none⟩)) (fun r w1 hr hg hA => by obtain ⟨q0, -⟩ := hA; have q0e : r (.tmp 3) = .pointer (some ⟨w.heap.size, 0, none⟩) := q0; exact ⟨rfl, by simp [go_sem, q0e]⟩) ?_
                        refine tab_val (.int .i64 px) (fun r w1 hr hg hA => by obtain ⟨⟨_, q0⟩, -⟩ := hA; have q0e : r (.tmp 157) = .pointer (some ⟨w.heap.size, 0, none⟩) := q0; have hc := CF.out w1 (GB.out.trans (hg1.trans hg)); exact ⟨rfl, by simp [go_sem, q0e, hc]⟩) ?_
                        refine tab_val (.pointer (some ⟨w.heap.size + 1, 0, none⟩)) (fun r w1 hr hg hA => by obtain ⟨q0, -⟩ := hA; have q0e : r (.tmp 4) = .pointer (some ⟨w.heap.size + 1, 0, none⟩) := q0; exact ⟨rfl, by simp [go_sem, q0e]⟩) ?_
                        refine tab_val (.int .i64 qx) (fun r w1 hr hg hA => by obtain ⟨⟨_, q0⟩, -⟩ := hA; have q0e : r (.tmp 159) = .pointer (some ⟨w.heap.size + 1, 0, none⟩) := q0; have hc := CF.out w1 (GB.out.trans (hg1.trans hg)); exact ⟨rfl, by simp [go_sem, q0e, hc]⟩) ?_
                        refine tab_val (.slice (some ⟨gn, 0, none⟩) m cn) (fun r w1 hr hg hA => by obtain ⟨q0, -⟩ := hA; have q0e : r (.tmp 7) = .slice (some ⟨gn, 0, none⟩) m cn := q0; exact ⟨rfl, by simp [go_sem, q0e]⟩) ?_
                        refine tab_val (.int .i64 (j : Int)) (fun r w1 hr hg hA => by obtain ⟨q0, -⟩ := hA; have q0e : r (.tmp 12) = .int .i64 (j : Int) := q0; exact ⟨rfl, by simp [go_sem, q0e]⟩) ?_
                        refine tab_val (.pointer (some ⟨gn, j, none⟩)) (fun r w1 hr hg hA => by obtain ⟨⟨_, q0⟩, ⟨_, q1⟩, -⟩ := hA; have q0e : r (.tmp 161) = .slice (some ⟨gn, 0, none⟩) m cn := q0; have q1e : r (.tmp 162) = .int .i64 (j : Int) := q1; exact ⟨rfl, by simp [go_sem, q0e, q1e, hjm2]⟩) ?_
                        refine tab_val (.int .i64 a1) (fun r w1 hr hg hA => by obtain ⟨⟨_, q0⟩, -⟩ := hA; have q0e : r (.tmp 163) = .pointer (some ⟨gn, j, none⟩) := q0; have hc := CF.out w1 (GB.out.trans (hg1.trans hg)); exact ⟨rfl, by simp [go_sem, q0e, hc]⟩) ?_
                        refine tab_val (.slice (some ⟨gd, 0, none⟩) m cd) (fun r w1 hr hg hA => by obtain ⟨q0, -⟩ := hA; have q0e : r (.tmp 8) = .slice (some ⟨gd, 0, none⟩) m cd := q0; exact ⟨rfl, by simp [go_sem, q0e]⟩) ?_
                        refine tab_val (.int .i64 (j : Int)) (fun r w1 hr hg hA => by obtain ⟨q0, -⟩ := hA; have q0e : r (.tmp 12) = .int .i64 (j : Int) := q0; exact ⟨rfl, by simp [go_sem, q0e]⟩) ?_
                        refine tab_val (.pointer (some ⟨gd, j, none⟩)) (fun r w1 hr hg hA => by obtain ⟨⟨_, q0⟩, ⟨_, q1⟩, -⟩ := hA; have q0e : r (.tmp 165) = .slice (some ⟨gd, 0, none⟩) m cd := q0; have q1e : r (.tmp 166) = .int .i64 (j : Int) := q1; exact ⟨rfl, by simp [go_sem, q0e, q1e, hjm2]⟩) ?_
                        refine tab_val (.int .i64 a2) (fun r w1 hr hg hA => by obtain ⟨⟨_, q0⟩, -⟩ := hA; have q0e : r (.tmp 167) = .pointer (some ⟨gd, j, none⟩) := q0; have hc := CF.out w1 (GB.out.trans (hg1.trans hg)); exact ⟨rfl, by simp [go_sem, q0e, hc]⟩) ?_
                        refine tab_val (.slice (some ⟨gn, 0, none⟩) m cn) (fun r w1 hr hg hA => by obtain ⟨q0, -⟩ := hA; have q0e : r (.tmp 7) = .slice (some ⟨gn, 0, none⟩) m cn := q0; exact ⟨rfl, by simp [go_sem, q0e]⟩) ?_
                        refine tab_val (.int .i64 (k : Int)) (fun r w1 hr hg hA => by obtain ⟨q0, -⟩ := hA; have q0e : r (.tmp 13) = .int .i64 (k : Int) := q0; exact ⟨rfl, by simp [go_sem, q0e]⟩) ?_
                        refine tab_val (.pointer (some ⟨gn, k, none⟩)) (fun r w1 hr hg hA => by obtain ⟨⟨_, q0⟩, ⟨_, q1⟩, -⟩ := hA; have q0e : r (.tmp 169) = .slice (some ⟨gn, 0, none⟩) m cn := q0; have q1e : r (.tmp 170) = .int .i64 (k : Int) := q1; exact ⟨rfl, by simp [go_sem, q0e, q1e, hkm2]⟩) ?_
                        refine tab_val (.int .i64 c1) (fun r w1 hr hg hA => by obtain ⟨⟨_, q0⟩, -⟩ := hA; have q0e : r (.tmp 171) = .pointer (some ⟨gn, k, none⟩) := q0; have hc := CF.out w1 (GB.out.trans (hg1.trans hg)); exact ⟨rfl, by simp [go_sem, q0e, hc]⟩) ?_
                        refine tab_val (.slice (some ⟨gd, 0, none⟩) m cd) (fun r w1 hr hg hA => by obtain ⟨q0, -⟩ := hA; have q0e : r (.tmp 8) = .slice (some ⟨gd, 0, none⟩) m cd := q0; exact ⟨rfl, by simp [go_sem, q0e]⟩) ?_
                        refine tab_val (.int .i64 (k : Int)) (fun r w1 hr hg hA => by obtain ⟨q0, -⟩ := hA; have q0e : r (.tmp 13) = .int .i64 (k : Int) := q0; exact ⟨rfl, by simp [go_sem, q0e]⟩) ?_
                        refine tab_val (.pointer (some ⟨gd, k, none⟩)) (fun r w1 hr hg hA => by obtain ⟨⟨_, q0⟩, ⟨_, q1⟩, -⟩ := hA; have q0e : r (.tmp 173) = .slice (some ⟨gd, 0, none⟩) m cd := q0; have q1e : r (.tmp 174) = .int .i64 (k : Int) := q1; exact ⟨rfl, by simp [go_sem, q0e, q1e, hkm2]⟩) ?_
                        refine tab_val (.int .i64 c2) (fun r w1 hr hg hA => by obtain ⟨⟨_, q0⟩, -⟩ := hA; have q0e : r (.tmp 175) = .pointer (some ⟨gd, k, none⟩) := q0; have hc := CF.out w1 (GB.out.trans (hg1.trans hg)); exact ⟨rfl, by simp [go_sem, q0e, hc]⟩) ?_
                        refine tab_val (.pointer (some ⟨w.heap.size + 2, 0, none⟩)) (fun r w1 hr hg hA => by obtain ⟨q0, -⟩ := hA; have q0e : r (.tmp 5) = .pointer (some ⟨w.heap.size + 2, 0, none⟩) := q0; exact ⟨rfl, by simp [go_sem, q0e]⟩) ?_
                        refine tab_val (.pointer (some ⟨w.heap.size + 2, 0, none⟩)) (fun r w1 hr hg hA => by obtain ⟨⟨_, q0⟩, -⟩ := hA; have q0e : r (.tmp 177) = .pointer (some ⟨w.heap.size + 2, 0, none⟩) := q0; exact ⟨rfl, by simp [go_sem, q0e]⟩) ?_
                        refine tab_val (.int .i64 lx) (fun r w1 hr hg hA => by obtain ⟨⟨_, q0⟩, -⟩ := hA; have q0e : r (.tmp 178) = .pointer (some ⟨w.heap.size + 2, 0, none⟩) := q0; have hc := CF.out w1 (GB.out.trans (hg1.trans hg)); exact ⟨rfl, by simp [go_sem, q0e, hc]⟩) ?_
                        refine tab_val (.pointer (some ⟨w.heap.size + 2, 2, none⟩)) (fun r w1 hr hg hA => by obtain ⟨q0, -⟩ := hA; have q0e : r (.tmp 5) = .pointer (some ⟨w.heap.size + 2, 0, none⟩) := q0; exact ⟨rfl, by simp [go_sem, q0e]⟩) ?_
                        refine tab_val (.pointer (some ⟨w.heap.size + 2, 2, none⟩)) (fun r w1 hr hg hA => by obtain ⟨⟨_, q0⟩, -⟩ := hA; have q0e : r (.tmp 180) = .pointer (some ⟨w.heap.size + 2, 2, none⟩) := q0; exact ⟨rfl, by simp [go_sem, q0e]⟩) ?_
                        refine tab_val (.int .i64 hx) (fun r w1 hr hg hA => by obtain ⟨⟨_, q0⟩, -⟩ := hA; have q0e : r (.tmp 181) = .pointer (some ⟨w.heap.size + 2, 2, none⟩) := q0; have hc := CF.out w1 (GB.out.trans (hg1.trans hg)); exact ⟨rfl, by simp [go_sem, q0e, hc]⟩) ?_
                        refine tab_call (v := .bool true) (fun w1 hg => H1.out w1) (fun r w1 hr hg hA => by obtain ⟨⟨_, q0⟩, ⟨_, q1⟩, ⟨_, q2⟩, ⟨_, q3⟩, ⟨_, q4⟩, ⟨_, q5⟩, ⟨_, q6⟩, ⟨_, q7⟩, -⟩ := hA; have q0e : r (.tmp 158) = .int .i64 px := q0; have q1e : r (.tmp 160) = .int .i64 qx := q1; have q2e : r (.tmp 164) = .int .i64 a1 := q2; have q3e : r (.tmp 168) = .int .i64 a2 := q3; have q4e : r (.tmp 172) = .int .i64 c1 := q4; have q5e : r (.tmp 176) = .int .i64 c2 := q5; have q6e : r (.tmp 179) = .int .i64 lx := q6; have q7e : r (.tmp 182) = .int .i64 hx := q7; exact ⟨rfl, by simp [go_sem, hr.func, q0e, q1e, q2e, q3e, q4e, q5e, q6e, q7e]⟩) ?_
                        refine tab_val (.bool true) (fun r w1 hr hg hA => by obtain ⟨⟨_, q0⟩, -⟩ := hA; have q0e : r (.tmp 183) = .bool true := q0; exact ⟨rfl, by simp [go_sem, q0e]⟩) ?_
                        refine tab_val (.pointer (some ⟨w.heap.size, 1, none⟩)) (fun r w1 hr hg hA => by obtain ⟨q0, ⟨_, q1⟩, -⟩ := hA; have q0e : r (.tmp 3) = .pointer (some ⟨w.heap.size, 0, none⟩) := q0; have q1e : r (.tmp 184) = .bool true := q1; exact ⟨⟨_, q1e, rfl⟩, by simp [go_sem, q0e]⟩) ?_
                        refine tab_val (.int .i64 py) (fun r w1 hr hg hA => by obtain ⟨⟨_, q0⟩, ⟨_, q1⟩, -⟩ := hA; have q0e : r (.tmp 185) = .pointer (some ⟨w.heap.size, 1, none⟩) := q0; have q1e : r (.tmp 184) = .bool true := q1; have hc := CF.out w1 (GB.out.trans (hg1.trans hg)); exact ⟨⟨_, q1e, rfl⟩, by simp [go_sem, q0e, hc]⟩) ?_
                        refine tab_val (.pointer (some ⟨w.heap.size + 1, 1, none⟩)) (fun r w1 hr hg hA => by obtain ⟨q0, ⟨_, q1⟩, -⟩ := hA; have q0e : r (.tmp 4) = .pointer (some ⟨w.heap.size + 1, 0, none⟩) := q0; have q1e : r (.tmp 184) = .bool true := q1; exact ⟨⟨_, q1e, rfl⟩, by simp [go_sem, q0e]⟩) ?_
                        refine tab_val (.int .i64 qy) (fun r w1 hr hg hA => by obtain ⟨⟨_, q0⟩, ⟨_, q1⟩, -⟩ := hA; have q0e : r (.tmp 187) = .pointer (some ⟨w.heap.size + 1, 1, none⟩) := q0; have q1e : r (.tmp 184) = .bool true := q1; have hc := CF.out w1 (GB.out.trans (hg1.trans hg)); exact ⟨⟨_, q1e, rfl⟩, by simp [go_sem, q0e, hc]⟩) ?_
                        refine tab_val (.slice (some ⟨gn, 0, none⟩) m cn) (fun r w1 hr hg hA => by obtain ⟨q0, ⟨_, q1⟩, -⟩ := hA; have q0e : r (.tmp 7) = .slice (some ⟨gn, 0, none⟩) m cn := q0; have q1e : r (.tmp 184) = .bool true := q1; exact ⟨⟨_, q1e, rfl⟩, by simp [go_sem, q0e]⟩) ?_
                        refine tab_val (.int .i64 (j : Int)) (fun r w1 hr hg hA => by obtain ⟨q0, ⟨_, q1⟩, -⟩ := hA; have q0e : r (.tmp 12) = .int .i64 (j : Int) := q0; have q1e : r (.tmp 184) = .bool true := q1; exact ⟨⟨_, q1e, rfl⟩, by simp [go_sem, q0e]⟩) ?_
                        refine tab_val (.pointer (some ⟨gn, j, none⟩)) (fun r w1 hr hg hA => by obtain ⟨⟨_, q0⟩, ⟨_, q1⟩, ⟨_, q2⟩, -⟩ := hA; have q0e : r (.tmp 189) = .slice (some ⟨gn, 0, none⟩) m cn := q0; have q1e : r (.tmp 190) = .int .i64 (j : Int) := q1; have q2e : r (.tmp 184) = .bool true := q2; exact ⟨⟨_, q2e, rfl⟩, by simp [go_sem, q0e, q1e, hjm2]⟩) ?_
                        refine tab_val (.int .i64 a1) (fun r w1 hr hg hA => by obtain ⟨⟨_, q0⟩, ⟨_, q1⟩, -⟩ := hA; have q0e : r (.tmp 191) = .pointer (some ⟨gn, j, none⟩) := q0; have q1e : r (.tmp 184) = .bool true := q1; have hc := CF.out w1 (GB.out.trans (hg1.trans hg)); exact ⟨⟨_, q1e, rfl⟩, by simp [go_sem, q0e, hc]⟩) ?_
                        refine tab_val (.slice (some ⟨gd, 0, none⟩) m cd) (fun r w1 hr hg hA => by obtain ⟨q0, ⟨_, q1⟩, -⟩ := hA; have q0e : r (.tmp 8) = .slice (some ⟨gd, 0, none⟩) m cd := q0; have q1e : r (.tmp 184) = .bool true := q1; exact ⟨⟨_, q1e, rfl⟩, by simp [go_sem, q0e]⟩) ?_
                        refine tab_val (.int .i64 (j : Int)) (fun r w1 hr hg hA => by obtain ⟨q0, ⟨_, q1⟩, -⟩ := hA; have q0e : r (.tmp 12) = .int .i64 (j : Int) := q0; have q1e : r (.tmp 184) = .bool true := q1; exact ⟨⟨_, q1e, rfl⟩, by simp [go_sem, q0e]⟩) ?_
                        refine tab_val (.pointer (some ⟨gd, j, none⟩)) (fun r w1 hr hg hA => by obtain ⟨⟨_, q0⟩, ⟨_, q1⟩, ⟨_, q2⟩, -⟩ := hA; have q0e : r (.tmp 193) = .slice (some ⟨gd, 0, none⟩) m cd := q0; have q1e : r (.tmp 194) = .int .i64 (j : Int) := q1; have q2e : r (.tmp 184) = .bool true := q2; exact ⟨⟨_, q2e, rfl⟩, by simp [go_sem, q0e, q1e, hjm2]⟩) ?_
                        refine tab_val (.int .i64 a2) (fun r w1 hr hg hA => by obtain ⟨⟨_, q0⟩, ⟨_, q1⟩, -⟩ := hA; have q0e : r (.tmp 195) = .pointer (some ⟨gd, j, none⟩) := q0; have q1e : r (.tmp 184) = .bool true := q1; have hc := CF.out w1 (GB.out.trans (hg1.trans hg)); exact ⟨⟨_, q1e, rfl⟩, by simp [go_sem, q0e, hc]⟩) ?_
                        refine tab_val (.slice (some ⟨gn, 0, none⟩) m cn) (fun r w1 hr hg hA => by obtain ⟨q0, ⟨_, q1⟩, -⟩ := hA; have q0e : r (.tmp 7) = .slice (some ⟨gn, 0, none⟩) m cn := q0; have q1e : r (.tmp 184) = .bool true := q1; exact ⟨⟨_, q1e, rfl⟩, by simp [go_sem, q0e]⟩) ?_
                        refine tab_val (.int .i64 (k : Int)) (fun r w1 hr hg hA => by obtain ⟨q0, ⟨_, q1⟩, -⟩ := hA; have q0e : r (.tmp 13) = .int .i64 (k : Int) := q0; have q1e : r (.tmp 184) = .bool true := q1; exact ⟨⟨_, q1e, rfl⟩, by simp [go_sem, q0e]⟩) ?_
                        refine tab_val (.pointer (some ⟨gn, k, none⟩)) (fun r w1 hr hg hA => by obtain ⟨⟨_, q0⟩, ⟨_, q1⟩, ⟨_, q2⟩, -⟩ := hA; have q0e : r (.tmp 197) = .slice (some ⟨gn, 0, none⟩) m cn := q0; have q1e : r (.tmp 198) = .int .i64 (k : Int) := q1; have q2e : r (.tmp 184) = .bool true := q2; exact ⟨⟨_, q2e, rfl⟩, by simp [go_sem, q0e, q1e, hkm2]⟩) ?_
                        refine tab_val (.int .i64 c1) (fun r w1 hr hg hA => by obtain ⟨⟨_, q0⟩, ⟨_, q1⟩, -⟩ := hA; have q0e : r (.tmp 199) = .pointer (some ⟨gn, k, none⟩) := q0; have q1e : r (.tmp 184) = .bool true := q1; have hc := CF.out w1 (GB.out.trans (hg1.trans hg)); exact ⟨⟨_, q1e, rfl⟩, by simp [go_sem, q0e, hc]⟩) ?_
                        refine tab_val (.slice (some ⟨gd, 0, none⟩) m cd) (fun r w1 hr hg hA => by obtain ⟨q0, ⟨_, q1⟩, -⟩ := hA; have q0e : r (.tmp 8) = .slice (some ⟨gd, 0, none⟩) m cd := q0; have q1e : r (.tmp 184) = .bool true := q1; exact ⟨⟨_, q1e, rfl⟩, by simp [go_sem, q0e]⟩) ?_
                        refine tab_val (.int .i64 (k : Int)) (fun r w1 hr hg hA => by obtain ⟨q0, ⟨_, q1⟩, -⟩ := hA; have q0e : r (.tmp 13) = .int .i64 (k : Int) := q0; have q1e : r (.tmp 184) = .bool true := q1; exact ⟨⟨_, q1e, rfl⟩, by simp [go_sem, q0e]⟩) ?_
                        refine tab_val (.pointer (some ⟨gd, k, none⟩)) (fun r w1 hr hg hA => by obtain ⟨⟨_, q0⟩, ⟨_, q1⟩, ⟨_, q2⟩, -⟩ := hA; have q0e : r (.tmp 201) = .slice (some ⟨gd, 0, none⟩) m cd := q0; have q1e : r (.tmp 202) = .int .i64 (k : Int) := q1; have q2e : r (.tmp 184) = .bool true := q2; exact ⟨⟨_, q2e, rfl⟩, by simp [go_sem, q0e, q1e, hkm2]⟩) ?_
                        refine tab_val (.int .i64 c2) (fun r w1 hr hg hA => by obtain ⟨⟨_, q0⟩, ⟨_, q1⟩, -⟩ := hA; have q0e : r (.tmp 203) = .pointer (some ⟨gd, k, none⟩) := q0; have q1e : r (.tmp 184) = .bool true := q1; have hc := CF.out w1 (GB.out.trans (hg1.trans hg)); exact ⟨⟨_, q1e, rfl⟩, by simp [go_sem, q0e, hc]⟩) ?_
                        refine tab_val (.pointer (some ⟨w.heap.size + 2, 0, none⟩)) (fun r w1 hr hg hA => by obtain ⟨q0, ⟨_, q1⟩, -⟩ := hA; have q0e : r (.tmp 5) = .pointer (some ⟨w.heap.size + 2, 0, none⟩) := q0; have q1e : r (.tmp 184) = .bool true := q1; exact ⟨⟨_, q1e, rfl⟩, by simp [go_sem, q0e]⟩) ?_
                        refine tab_val (.pointer (some ⟨w.heap.size + 2, 1, none⟩)) (fun r w1 hr hg hA => by obtain ⟨⟨_, q0⟩, ⟨_, q1⟩, -⟩ := hA; have q0e : r (.tmp 205) = .pointer (some ⟨w.heap.size + 2, 0, none⟩) := q0; have q1e : r (.tmp 184) = .bool true := q1; exact ⟨⟨_, q1e, rfl⟩, by simp [go_sem, q0e]⟩) ?_
                        refine tab_val (.int .i64 ly) (fun r w1 hr hg hA => by obtain ⟨⟨_, q0⟩, ⟨_, q1⟩, -⟩ := hA; have q0e : r (.tmp 206) = .pointer (some ⟨w.heap.size + 2, 1, none⟩) := q0; have q1e : r (.tmp 184) = .bool true := q1; have hc := CF.out w1 (GB.out.trans (hg1.trans hg)); exact ⟨⟨_, q1e, rfl⟩, by simp [go_sem, q0e, hc]⟩) ?_
                        refine tab_val (.pointer (some ⟨w.heap.size + 2, 2, none⟩)) (fun r w1 hr hg hA => by obtain ⟨q0, ⟨_, q1⟩, -⟩ := hA; have q0e : r (.tmp 5) = .pointer (some ⟨w.heap.size + 2, 0, none⟩) := q0; have q1e : r (.tmp 184) = .bool true := q1; exact ⟨⟨_, q1e, rfl⟩, by simp [go_sem, q0e]⟩) ?_
                        refine tab_val (.pointer (some ⟨w.heap.size + 2, 3, none⟩)) (fun r w1 hr hg hA => by obtain ⟨⟨_, q0⟩, ⟨_, q1⟩, -⟩ := hA; have q0e : r (.tmp 208) = .pointer (some ⟨w.heap.size + 2, 2, none⟩) := q0; have q1e : r (.tmp 184) = .bool true := q1; exact ⟨⟨_, q1e, rfl⟩, by simp [go_sem, q0e]⟩) ?_
                        refine tab_val (.int .i64 hy) (fun r w1 hr hg hA => by obtain ⟨⟨_, q0⟩, ⟨_, q1⟩, -⟩ := hA; have q0e : r (.tmp 209) = .pointer (some ⟨w.heap.size + 2, 3, none⟩) := q0; have q1e : r (.tmp 184) = .bool true := q1; have hc := CF.out w1 (GB.out.trans (hg1.trans hg)); exact ⟨⟨_, q1e, rfl⟩, by simp [go_sem, q0e, hc]⟩) ?_
                        refine tab_call (v := .bool false) (fun w1 hg => H2.out w1) (fun r w1 hr hg hA => by obtain ⟨⟨_, q0⟩, ⟨_, q1⟩, ⟨_, q2⟩, ⟨_, q3⟩, ⟨_, q4⟩, ⟨_, q5⟩, ⟨_, q6⟩, ⟨_, q7⟩, ⟨_, q8⟩, -⟩ := hA; have q0e : r (.tmp 186) = .int .i64 py := q0; have q1e : r (.tmp 188) = .int .i64 qy := q1; have q2e : r (.tmp 192) = .int .i64 a1 := q2; have q3e : r (.tmp 196) = .int .i64 a2 := q3; have q4e : r (.tmp 200) = .int .i64 c1 := q4; have q5e : r (.tmp 204) = .int .i64 c2 := q5; have q6e : r (.tmp 207) = .int .i64 ly := q6; have q7e : r (.tmp 210) = .int .i64 hy := q7; have q8e : r (.tmp 184) = .bool true := q8; exact ⟨⟨_, q8e, rfl⟩, by simp [go_sem, hr.func, q0e, q1e, q2e, q3e, q4e, q5e, q6e, q7e]⟩) ?_
                        refine tab_val (.bool false) (fun r w1 hr hg hA => by obtain ⟨⟨_, q0⟩, ⟨_, q1⟩, -⟩ := hA; have q0e : r (.tmp 184) = .bool true := q0; have q1e : r (.tmp 211) = .bool false := q1; exact ⟨rfl, by simp [go_sem, q0e, q1e]⟩) ?_
                        refine tab_end ?_
                        simp only [List.reverse_cons, List.reverse_nil, List.nil_append, List.cons_append, Out, BlockP, forall_eq, forall_const, Act.put, List.setIfInBounds_toArray, List.set_cons_succ, List.set_cons_zero]
                        intro wC hgA
                        have GC : Hid (Grows wB wC) := Lib.hid (hg1.trans hgA)
                        clear hg1 hgA hg1' hw0
                        go_wp2
                        exact ⟨⟨k + 1, by simp, by omega, Lib.hid (fun c hc => (Nat.lt_succ_iff_lt_or_eq.1 hc).elim (fun h => HPK.out c h) (fun h => by rw [h]; exact HE.out)), Lib.hid (G.out.trans (GB.out.trans GC.out))⟩, by simp only [intOf]; omega⟩
                      | true =>
                        have HE : Hid (insideB px py qx qy ⟨lx, ly, hx, hy⟩ = true) := Lib.hid (inside_yes HPL.out (by rw [← HLM.out]; exact hjm) (by rw [← HLM.out]; exact hkm) HPR2.out)
                        refine wp_region_tab 56 (by kernel_rfl) (by kernel_rfl) ?_
                        intro w0 hw0 hg1 hg1'
                        simp only [List.take_succ_cons, List.take_zero, List.drop_succ_cons, List.drop_zero]
                        refine tab_val (.pointer (some ⟨w.heap.size, 0, none⟩)) (fun r w1 hr hg hA => by obtain ⟨q0, -⟩ := hA; have q0e : r (.tmp 3) = .pointer (some ⟨w.heap.size, 0, none⟩) := q0; exact ⟨rfl, by simp [go_sem, q0e]⟩) ?_
                        refine tab_val (.int .i64 px) (fun r w1 hr hg hA => by obtain ⟨⟨_, q0⟩, -⟩ := hA; have q0e : r (.tmp 157) = .pointer (some ⟨w.heap.size, 0, none⟩) := q0; have hc := CF.out w1 (GB.out.trans (hg1.trans hg)); exact ⟨rfl, by simp [go_sem, q0e, hc]⟩) ?_
                        refine tab_val (.pointer (some ⟨w.heap.size + 1, 0, none⟩)) (fun r w1 hr hg hA => by obtain ⟨q0, -⟩ := hA; have q0e : r (.tmp 4) = .pointer (some ⟨w.heap.size + 1, 0, none⟩) := q0; exact ⟨rfl, by simp [go_sem, q0e]⟩) ?_
                        refine tab_val (.int .i64 qx) (fun r w1 hr hg hA => by obtain ⟨⟨_, q0⟩, -⟩ := hA; have q0e : r (.tmp 159) = .pointer (some ⟨w.heap.size + 1, 0, none⟩) := q0; have hc := CF.out w1 (GB.out.trans (hg1.trans hg)); exact ⟨rfl, by simp [go_sem, q0e, hc]⟩) ?_
                        refine tab_val (.slice (some ⟨gn, 0, none⟩) m cn) (fun r w1 hr hg hA => by obtain ⟨q0, -⟩ := hA; have q0e : r (.tmp 7) = .slice (some ⟨gn, 0, none⟩) m cn := q0; exact ⟨rfl, by simp [go_sem, q0e]⟩) ?_
                        refine tab_val (.int .i64 (j : Int)) (fun r w1 hr hg hA => by obtain ⟨q0, -⟩ := hA; have q0e : r (.tmp 12) = .int .i64 (j : Int) := q0; exact ⟨rfl, by simp [go_sem, q0e]⟩) ?_
                        refine tab_val (.pointer (some ⟨gn, j, none⟩)) (fun r w1 hr hg hA => by obtain ⟨⟨_, q0⟩, ⟨_, q1⟩, -⟩ := hA; have q0e : r (.tmp 161) = .slice (some ⟨gn, 0, none⟩) m cn := q0; have q1e : r (.tmp 162) = .int .i64 (j : Int) := q1; exact ⟨rfl, by simp [go_sem, q0e, q1e, hjm2]⟩) ?_
                        refine tab_val (.int .i64 a1) (fun r w1 hr hg hA => by obtain ⟨⟨_, q0⟩, -⟩ := hA; have q0e : r (.tmp 163) = .pointer (some ⟨gn, j, none⟩) := q0; have hc := CF.out w1 (GB.out.trans (hg1.trans hg)); exact ⟨rfl, by simp [go_sem, q0e, hc]⟩) ?_
                        refine tab_val (.slice (some ⟨gd, 0, none⟩) m cd) (fun r w1 hr hg hA => by obtain ⟨q0, -⟩ := hA; have q0e : r (.tmp 8) = .slice (some ⟨gd, 0, none⟩) m cd := q0; exact ⟨rfl, by simp [go_sem, q0e]⟩) ?_
                        refine tab_val (.int .i64 (j : Int)) (fun r w1 hr hg hA => by obtain ⟨q0, -⟩ := hA; have q0e : r (.tmp 12) = .int .i64 (j : Int) := q0; exact ⟨rfl, by simp [go_sem, q0e]⟩) ?_
                        refine tab_val (.pointer (some ⟨gd, j, none⟩)) (fun r w1 hr hg hA => by obtain ⟨⟨_, q0⟩, ⟨_, q1⟩, -⟩ := hA; have q0e : r (.tmp 165) = .slice (some ⟨gd, 0, none⟩) m cd := q0; have q1e : r (.tmp 166) = .int .i64 (j : Int) := q1; exact ⟨rfl, by simp [go_sem, q0e, q1e, hjm2]⟩) ?_
                        refine tab_val (.int .i64 a2) (fun r w1 hr hg hA => by obtain ⟨⟨_, q0⟩, -⟩ := hA; have q0e : r (.tmp 167) = .pointer (some ⟨gd, j, none⟩) := q0; have hc := CF.out w1 (GB.out.trans (hg1.trans hg)); exact ⟨rfl, by simp [go_sem, q0e, hc]⟩) ?_
                        refine tab_val (.slice (some ⟨gn, 0, none⟩) m cn) (fun r w1 hr hg hA => by obtain ⟨q0, -⟩ := hA; have q0e : r (.tmp 7) = .slice (some ⟨gn, 0, none⟩) m cn := q0; exact ⟨rfl, by simp [go_sem, q0e]⟩) ?_
                        refine tab_val (.int .i64 (k : Int)) (fun r w1 hr hg hA => by obtain ⟨q0, -⟩ := hA; have q0e : r (.tmp 13) = .int .i64 (k : Int) := q0; exact ⟨rfl, by simp [go_sem, q0e]⟩) ?_
                        refine tab_val (.pointer (some ⟨gn, k, none⟩)) (fun r w1 hr hg hA => by obtain ⟨⟨_, q0⟩, ⟨_, q1⟩, -⟩ := hA; have q0e : r (.tmp 169) = .slice (some ⟨gn, 0, none⟩) m cn := q0; have q1e : r (.tmp 170) = .int .i64 (k : Int) := q1; exact ⟨rfl, by simp [go_sem, q0e, q1e, hkm2]⟩) ?_
                        refine tab_val (.int .i64 c1) (fun r w1 hr hg hA => by obtain ⟨⟨_, q0⟩, -⟩ := hA; have q0e : r (.tmp 171) = .pointer (some ⟨gn, k, none⟩) := q0; have hc := CF.out w1 (GB.out.trans (hg1.trans hg)); exact ⟨rfl, by simp [go_sem, q0e, hc]⟩) ?_
                        refine tab_val (.slice (some ⟨gd, 0, none⟩) m cd) (fun r w1 hr hg hA => by obtain ⟨q0, -⟩ := hA; have q0e : r (.tmp 8) = .slice (some ⟨gd, 0, none⟩) m cd := q0; exact ⟨rfl, by simp [go_sem, q0e]⟩) ?_
                        refine tab_val (.int .i64 (k : Int)) (fun r w1 hr hg hA => by obtain ⟨q0, -⟩ := hA; have q0e : r (.tmp 13) = .int .i64 (k : Int) := q0; exact ⟨rfl, by simp [go_sem, q0e]⟩) ?_
                        refine tab_val (.pointer (some ⟨gd, k, none⟩)) (fun r w1 hr hg hA => by obtain ⟨⟨_, q0⟩, ⟨_, q1⟩, -⟩ := hA; have q0e : r (.tmp 173) = .slice (some ⟨gd, 0, none⟩) m cd := q0; have q1e : r (.tmp 174) = .int .i64 (k : Int) := q1; exact ⟨rfl, by simp [go_sem, q0e, q1e, hkm2]⟩) ?_
                        refine tab_val (.int .i64 c2) (fun r w1 hr hg hA => by obtain ⟨⟨_, q0⟩, -⟩ := hA; have q0e : r (.tmp 175) = .pointer (some ⟨gd, k, none⟩) := q0; have hc := CF.out w1 (GB.out.trans (hg1.trans hg)); exact ⟨rfl, by simp [go_sem, q0e, hc]⟩) ?_
                        refine tab_val (.pointer (some ⟨w.heap.size + 2, 0, none⟩)) (fun r w1 hr hg hA => by obtain ⟨q0, -⟩ := hA; have q0e : r (.tmp 5) = .pointer (some ⟨w.heap.size + 2, 0, none⟩) := q0; exact ⟨rfl, by simp [go_sem, q0e]⟩) ?_
                        refine tab_val (.pointer (some ⟨w.heap.size + 2, 0, none⟩)) (fun r w1 hr hg hA => by obtain ⟨⟨_, q0⟩, -⟩ := hA; have q0e : r (.tmp 177) = .pointer (some ⟨w.heap.size + 2, 0, none⟩) := q0; exact ⟨rfl, by simp [go_sem, q0e]⟩) ?_
                        refine tab_val (.int .i64 lx) (fun r w1 hr hg hA => by obtain ⟨⟨_, q0⟩, -⟩ := hA; have q0e : r (.tmp 178) = .pointer (some ⟨w.heap.size + 2, 0, none⟩) := q0; have hc := CF.out w1 (GB.out.trans (hg1.trans hg)); exact ⟨rfl, by simp [go_sem, q0e, hc]⟩) ?_
                        refine tab_val (.pointer (some ⟨w.heap.size + 2, 2, none⟩)) (fun r w1 hr hg hA => by obtain ⟨q0, -⟩ := hA; have q0e : r (.tmp 5) = .pointer (some ⟨w.heap.size + 2, 0, none⟩) := q0; exact ⟨rfl, by simp [go_sem, q0e]⟩) ?_
                        refine tab_val (.pointer (some ⟨w.heap.size + 2, 2, none⟩)) (fun r w1 hr hg hA => by obtain ⟨⟨_, q0⟩, -⟩ := hA; have q0e : r (.tmp 180) = .pointer (some ⟨w.heap.size + 2, 2, none⟩) := q0; exact ⟨rfl, by simp [go_sem, q0e]⟩) ?_
                        refine tab_val (.int .i64 hx) (fun r w1 hr hg hA => by obtain ⟨⟨_, q0⟩, -⟩ := hA; have q0e : r (.tmp 181) = .pointer (some ⟨w.heap.size + 2, 2, none⟩) := q0; have hc := CF.out w1 (GB.out.trans (hg1.trans hg)); exact ⟨rfl, by simp [go_sem, q0e, hc]⟩) ?_
                        refine tab_call (v := .bool true) (fun w1 hg => H1.out w1) (fun r w1 hr hg hA => by obtain ⟨⟨_, q0⟩, ⟨_, q1⟩, ⟨_, q2⟩, ⟨_, q3⟩, ⟨_, q4⟩, ⟨_, q5⟩, ⟨_, q6⟩, ⟨_, q7⟩, -⟩ := hA; have q0e : r (.tmp 158) = .int .i64 px := q0; have q1e : r (.tmp 160) = .int .i64 qx := q1; have q2e : r (.tmp 164) = .int .i64 a1 := q2; have q3e : r (.tmp 168) = .int .i64 a2 := q3; have q4e : r (.tmp 172) = .int .i64 c1 := q4; have q5e : r (.tmp 176) = .int .i64 c2 := q5; have q6e : r (.tmp 179) = .int .i64 lx := q6; have q7e : r (.tmp 182) = .int .i64 hx := q7; exact ⟨rfl, by simp [go_sem, hr.func, q0e, q1e, q2e, q3e, q4e, q5e, q6e, q7e]⟩) ?_
                        refine tab_val (.bool true) (fun r w1 hr hg hA => by obtain ⟨⟨_, q0⟩, -⟩ := hA; have q0e : r (.tmp 183) = .bool true := q0; exact ⟨rfl, by simp [go_sem, q0e]⟩) ?_
                        refine tab_val (.pointer (some ⟨w.heap.size, 1, none⟩)) (fun r w1 hr hg hA => by obtain ⟨q0, ⟨_, q1⟩, -⟩ := hA; have q0e : r (.tmp 3) = .pointer (some ⟨w.heap.size, 0, none⟩) := q0; have q1e : r (.tmp 184) = .bool true := q1; exact ⟨⟨_, q1e, rfl⟩, by simp [go_sem, q0e]⟩) ?_
                        refine tab_val (.int .i64 py) (fun r w1 hr hg hA => by obtain ⟨⟨_, q0⟩, ⟨_, q1⟩, -⟩ := hA; have q0e : r (.tmp 185) = .pointer (some ⟨w.heap.size, 1, none⟩) := q0; have q1e : r (.tmp 184) = .bool true := q1; have hc := CF.out w1 (GB.out.trans (hg1.trans hg)); exact ⟨⟨_, q1e, rfl⟩, by simp [go_sem, q0e, hc]⟩) ?_
                        refine tab_val (.pointer (some ⟨w.heap.size + 1, 1, none⟩)) (fun r w1 hr hg hA => by obtain ⟨q0, ⟨_, q1⟩, -⟩ := hA; have q0e : r (.tmp 4) = .pointer (some ⟨w.heap.size + 1, 0, none⟩) := q0; have q1e : r (.tmp 184) = .bool true := q1; exact ⟨⟨_, q1e, rfl⟩, by simp [go_sem, q0e]⟩) ?_
                        refine tab_val (.int .i64 qy) (fun r w1 hr hg hA => by obtain ⟨⟨_, q0⟩, ⟨_, q1⟩, -⟩ := hA; have q0e : r (.tmp 187) = .pointer (some ⟨w.heap.size + 1, 1, none⟩) := q0; have q1e : r (.tmp 184) = .bool true := q1; have hc := CF.out w1 (GB.out.trans (hg1.trans hg)); exact ⟨⟨_, q1e, rfl⟩, by simp [go_sem, q0e, hc]⟩) ?_
                        refine tab_val (.slice (some ⟨gn, 0, none⟩) m cn) (fun r w1 hr hg hA => by obtain ⟨q0, ⟨_, q1⟩, -⟩ := hA; have q0e : r (.tmp 7) = .slice (some ⟨gn, 0, none⟩) m cn := q0; have q1e : r (.tmp 184) = .bool true := q1; exact ⟨⟨_, q1e, rfl⟩, by simp [go_sem, q0e]⟩) ?_
                        refine tab_val (.int .i64 (j : Int)) (fun r w1 hr hg hA => by obtain ⟨q0, ⟨_, q1⟩, -⟩ := hA; have q0e : r (.tmp 12) = .int .i64 (j : Int) := q0; have q1e : r (.tmp 184) = .bool true := q1; exact ⟨⟨_, q1e, rfl⟩, by simp [go_sem, q0e]⟩) ?_
                        refine tab_val (.pointer (some ⟨gn, j, none⟩)) (fun r w1 hr hg hA => by obtain ⟨⟨_, q0⟩, ⟨_, q1⟩, ⟨_, q2⟩, -⟩ := hA; have q0e : r (.tmp 189) = .slice (some ⟨gn, 0, none⟩) m cn := q0; have q1e : r (.tmp 190) = .int .i64 (j : Int) := q1; have q2e : r (.tmp 184) = .bool true := q2; exact ⟨⟨_, q2e, rfl⟩, by simp [go_sem, q0e, q1e, hjm2]⟩) ?_
                        refine tab_val (.int .i64 a1) (fun r w1 hr hg hA => by obtain ⟨⟨_, q0⟩, ⟨_, q1⟩, -⟩ := hA; have q0e : r (.tmp 191) = .pointer (some ⟨gn, j, none⟩) := q0; have q1e : r (.tmp 184) = .bool true := q1; have hc := CF.out w1 (GB.out.trans (hg1.trans hg)); exact ⟨⟨_, q1e, rfl⟩, by simp [go_sem, q0e, hc]⟩) ?_
                        refine tab_val (.slice (some ⟨gd, 0, none⟩) m cd) (fun r w1 hr hg hA => by obtain ⟨q0, ⟨_, q1⟩, -⟩ := hA; have q0e : r (.tmp 8) = .slice (some ⟨gd, 0, none⟩) m cd := q0; have q1e : r (.tmp 184) = .bool true := q1; exact ⟨⟨_, q1e, rfl⟩, by simp [go_sem, q0e]⟩) ?_
                        refine tab_val (.int .i64 (j : Int)) (fun r w1 hr hg hA => by obtain ⟨q0, ⟨_, q1⟩, -⟩ := hA; have q0e : r (.tmp 12) = .int .i64 (j : Int) := q0; have q1e : r (.tmp 184) = .bool true := q1; exact ⟨⟨_, q1e, rfl⟩, by simp [go_sem, q0e]⟩) ?_
                        refine tab_val (.pointer (some ⟨gd, j, none⟩)) (fun r w1 hr hg hA => by obtain ⟨⟨_, q0⟩, ⟨_, q1⟩, ⟨_, q2⟩, -⟩ := hA; have q0e : r (.tmp 193) = .slice (some ⟨gd, 0, none⟩) m cd := q0; have q1e : r (.tmp 194) = .int .i64 (j : Int) := q1; have q2e : r (.tmp 184) = .bool true := q2; exact ⟨⟨_, q2e, rfl⟩, by simp [go_sem, q0e, q1e, hjm2]⟩) ?_
                        refine tab_val (.int .i64 a2) (fun r w1 hr hg hA => by obtain ⟨⟨_, q0⟩, ⟨_, q1⟩, -⟩ := hA; have q0e : r (.tmp 195) = .pointer (some ⟨gd, j, none⟩) := q0; have q1e : r (.tmp 184) = .bool true := q1; have hc := CF.out w1 (GB.out.trans (hg1.trans hg)); exact ⟨⟨_, q1e, rfl⟩, by simp [go_sem, q0e, hc]⟩) ?_
                        refine tab_val (.slice (some ⟨gn, 0, none⟩) m cn) (fun r w1 hr hg hA => by obtain ⟨q0, ⟨_, q1⟩, -⟩ := hA; have q0e : r (.tmp 7) = .slice (some ⟨gn, 0, none⟩) m cn := q0; have q1e : r (.tmp 184) = .bool true := q1; exact ⟨⟨_, q1e, rfl⟩, by simp [go_sem, q0e]⟩) ?_
                        refine tab_val (.int .i64 (k : Int)) (fun r w1 hr hg hA => by obtain ⟨q0, ⟨_, q1⟩, -⟩ := hA; have q0e : r (.tmp 13) = .int .i64 (k : Int) := q0; have q1e : r (.tmp 184) = .bool true := q1; exact ⟨⟨_, q1e, rfl⟩, by simp [go_sem, q0e]⟩) ?_
                        refine tab_val (.pointer (some ⟨gn, k, none⟩)) (fun r w1 hr hg hA => by obtain ⟨⟨_, q0⟩, ⟨_, q1⟩, ⟨_, q2⟩, -⟩ := hA; have q0e : r (.tmp 197) = .slice (some ⟨gn, 0, none⟩) m cn := q0; have q1e : r (.tmp 198) = .int .i64 (k : Int) := q1; have q2e : r (.tmp 184) = .bool true := q2; exact ⟨⟨_, q2e, rfl⟩, by simp [go_sem, q0e, q1e, hkm2]⟩) ?_
                        refine tab_val (.int .i64 c1) (fun r w1 hr hg hA => by obtain ⟨⟨_, q0⟩, ⟨_, q1⟩, -⟩ := hA; have q0e : r (.tmp 199) = .pointer (some ⟨gn, k, none⟩) := q0; have q1e : r (.tmp 184) = .bool true := q1; have hc := CF.out w1 (GB.out.trans (hg1.trans hg)); exact ⟨⟨_, q1e, rfl⟩, by simp [go_sem, q0e, hc]⟩) ?_
                        refine tab_val (.slice (some ⟨gd, 0, none⟩) m cd) (fun r w1 hr hg hA => by obtain ⟨q0, ⟨_, q1⟩, -⟩ := hA; have q0e : r (.tmp 8) = .slice (some ⟨gd, 0, none⟩) m cd := q0; have q1e : r (.tmp 184) = .bool true := q1; exact ⟨⟨_, q1e, rfl⟩, by simp [go_sem, q0e]⟩) ?_
                        refine tab_val (.int .i64 (k : Int)) (fun r w1 hr hg hA => by obtain ⟨q0, ⟨_, q1⟩, -⟩ := hA; have q0e : r (.tmp 13) = .int .i64 (k : Int) := q0; have q1e : r (.tmp 184) = .bool true := q1; exact ⟨⟨_, q1e, rfl⟩, by simp [go_sem, q0e]⟩) ?_
                        refine tab_val (.pointer (some ⟨gd, k, none⟩)) (fun r w1 hr hg hA => by obtain ⟨⟨_, q0⟩, ⟨_, q1⟩, ⟨_, q2⟩, -⟩ := hA; have q0e : r (.tmp 201) = .slice (some ⟨gd, 0, none⟩) m cd := q0; have q1e : r (.tmp 202) = .int .i64 (k : Int) := q1; have q2e : r (.tmp 184) = .bool true := q2; exact ⟨⟨_, q2e, rfl⟩, by simp [go_sem, q0e, q1e, hkm2]⟩) ?_
                        refine tab_val (.int .i64 c2) (fun r w1 hr hg hA => by obtain ⟨⟨_, q0⟩, ⟨_, q1⟩, -⟩ := hA; have q0e : r (.tmp 203) = .pointer (some ⟨gd, k, none⟩) := q0; have q1e : r (.tmp 184) = .bool true := q1; have hc := CF.out w1 (GB.out.trans (hg1.trans hg)); exact ⟨⟨_, q1e, rfl⟩, by simp [go_sem, q0e, hc]⟩) ?_
                        refine tab_val (.pointer (some ⟨w.heap.size + 2, 0, none⟩)) (fun r w1 hr hg hA => by obtain ⟨q0, ⟨_, q1⟩, -⟩ := hA; have q0e : r (.tmp 5) = .pointer (some ⟨w.heap.size + 2, 0, none⟩) := q0; have q1e : r (.tmp 184) = .bool true := q1; exact ⟨⟨_, q1e, rfl⟩, by simp [go_sem, q0e]⟩) ?_
                        refine tab_val (.pointer (some ⟨w.heap.size + 2, 1, none⟩)) (fun r w1 hr hg hA => by obtain ⟨⟨_, q0⟩, ⟨_, q1⟩, -⟩ := hA; have q0e : r (.tmp 205) = .pointer (some ⟨w.heap.size + 2, 0, none⟩) := q0; have q1e : r (.tmp 184) = .bool true := q1; exact ⟨⟨_, q1e, rfl⟩, by simp [go_sem, q0e]⟩) ?_
                        refine tab_val (.int .i64 ly) (fun r w1 hr hg hA => by obtain ⟨⟨_, q0⟩, ⟨_, q1⟩, -⟩ := hA; have q0e : r (.tmp 206) = .pointer (some ⟨w.heap.size + 2, 1, none⟩) := q0; have q1e : r (.tmp 184) = .bool true := q1; have hc := CF.out w1 (GB.out.trans (hg1.trans hg)); exact ⟨⟨_, q1e, rfl⟩, by simp [go_sem, q0e, hc]⟩) ?_
                        refine tab_val (.pointer (some ⟨w.heap.size + 2, 2, none⟩)) (fun r w1 hr hg hA => by obtain ⟨q0, ⟨_, q1⟩, -⟩ := hA; have q0e : r (.tmp 5) = .pointer (some ⟨w.heap.size + 2, 0, none⟩) := q0; have q1e : r (.tmp 184) = .bool true := q1; exact ⟨⟨_, q1e, rfl⟩, by simp [go_sem, q0e]⟩) ?_
                        refine tab_val (.pointer (some ⟨w.heap.size + 2, 3, none⟩)) (fun r w1 hr hg hA => by obtain ⟨⟨_, q0⟩, ⟨_, q1⟩, -⟩ := hA; have q0e : r (.tmp 208) = .pointer (some ⟨w.heap.size + 2, 2, none⟩) := q0; have q1e : r (.tmp 184) = .bool true := q1; exact ⟨⟨_, q1e, rfl⟩, by simp [go_sem, q0e]⟩) ?_
                        refine tab_val (.int .i64 hy) (fun r w1 hr hg hA => by obtain ⟨⟨_, q0⟩, ⟨_, q1⟩, -⟩ := hA; have q0e : r (.tmp 209) = .pointer (some ⟨w.heap.size + 2, 3, none⟩) := q0; have q1e : r (.tmp 184) = .bool true := q1; have hc := CF.out w1 (GB.out.trans (hg1.trans hg)); exact ⟨⟨_, q1e, rfl⟩, by simp [go_sem, q0e, hc]⟩) ?_
                        refine tab_call (v := .bool true) (fun w1 hg => H2.out w1) (fun r w1 hr hg hA => by obtain ⟨⟨_, q0⟩, ⟨_, q1⟩, ⟨_, q2⟩, ⟨_, q3⟩, ⟨_, q4⟩, ⟨_, q5⟩, ⟨_, q6⟩, ⟨_, q7⟩, ⟨_, q8⟩, -⟩ := hA; have q0e : r (.tmp 186) = .int .i64 py := q0; have q1e : r (.tmp 188) = .int .i64 qy := q1; have q2e : r (.tmp 192) = .int .i64 a1 := q2; have q3e : r (.tmp 196) = .int .i64 a2 := q3; have q4e : r (.tmp 200) = .int .i64 c1 := q4; have q5e : r (.tmp 204) = .int .i64 c2 := q5; have q6e : r (.tmp 207) = .int .i64 ly := q6; have q7e : r (.tmp 210) = .int .i64 hy := q7; have q8e : r (.tmp 184) = .bool true := q8; exact ⟨⟨_, q8e, rfl⟩, by simp [go_sem, hr.func, q0e, q1e, q2e, q3e, q4e, q5e, q6e, q7e]⟩) ?_
                        refine tab_val (.bool true) (fun r w1 hr hg hA => by obtain ⟨⟨_, q0⟩, ⟨_, q1⟩, -⟩ := hA; have q0e : r (.tmp 184) = .bool true := q0; have q1e : r (.tmp 211) = .bool true := q1; exact ⟨rfl, by simp [go_sem, q0e, q1e]⟩) ?_
                        refine tab_end ?_
                        simp only [List.reverse_cons, List.reverse_nil, List.nil_append, List.cons_append, Out, BlockP, forall_eq, forall_const, Act.put, List.setIfInBounds_toArray, List.set_cons_succ, List.set_cons_zero]
                        intro wC hgA
                        have GC : Hid (Grows wB wC) := Lib.hid (hg1.trans hgA)
                        clear hg1 hgA hg1' hw0
                        go_wp2
                        go_ret
                        exact ⟨ret_bool HE.out.symm, GW.out.trans (GO.out.trans (G.out.trans (GB.out.trans GC.out)))⟩
            · obtain rfl : k = m := by omega
              go_wp2
              exact ⟨⟨j + 1, by simp, by omega, Lib.hid (fun a ha c hc => (Nat.lt_succ_iff_lt_or_eq.1 ha).elim (fun h => HPJ.out a h c hc) (fun h => by rw [h]; exact HPK.out c hc)), Lib.hid (GO.out.trans G.out)⟩, by simp only [intOf]; omega⟩
        · obtain rfl : j = m := by omega
          have HE : Hid (insideB px py qx qy ⟨lx, ly, hx, hy⟩ = false) := Lib.hid (inside_no HPL.out (fun a ha c hc => HPJ.out a (by rw [HLM.out]; exact ha) c (by rw [HLM.out]; exact hc)))
          go_wp2
          go_ret
          exact ⟨ret_bool HE.out.symm, GW.out.trans GO.out⟩
end Go.Proofs.Ytlkihbehiojimaa
