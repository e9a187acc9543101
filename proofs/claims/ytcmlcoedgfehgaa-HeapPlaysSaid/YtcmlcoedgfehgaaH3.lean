/-
  Layer 5: an entry brought up.
-/
import Derived.Test.YtcmlcoedgfehgaaH2
import Derived.BigRegion
namespace Go.Proofs.Ytcmlcoedgfehgaa
open Go.RowKit Go.Tab Go.WideShapes

theorem grownBy_of {a b : World} {r : Option Nat} (h : Grows a b) : a.grownBy b r := ⟨h.os, h.tape, h.output, h.size, fun k hk _ => Below.block h k hk⟩

set_option maxRecDepth 100000 in
set_option maxHeartbeats 4000000 in
theorem rise_any (L : List Ent3) (B hb g n cap p : Nat) (w : World) (hL : L.length = n) (hp : p < n) (hn : n ≤ 1000000) (hgb : ¬ hb = g)
    (hH : w.heap[hb]? = some (.cells #[.slice (some ⟨g, 0, none⟩) n cap] 27 (0, 0))) (hown : w.ownsRow B 30 3 (.slice (some ⟨g, 0, none⟩) n cap) n (flat3 L)) :
    Calls Try.prog 22 #[.pointer (some ⟨hb, 0, none⟩), iv p] w (fun e w' => e = .returned (.tuple #[]) ∧ w'.ownsRow B 30 3 (.slice (some ⟨g, 0, none⟩) n cap) n (flat3 (riseF L p)) ∧ w.grownBy w' (some g)) := by
  have HH := Lib.hid hH
  have Own0 := Lib.hid hown
  have HL := Lib.hid hL
  clear hH hown hL
  go_enter Try.func22, Try.ntmps22
  go_wp2
  refine wp_scope_label 0 (fun a' wr => ∃ (k : Nat) (L' : List Ent3) (u2 u3 u4 u5 u6 u7 u8 u9 u10 u11 u12 u13 u14 u15 u16 u17 u18 u19 u20 u21 u22 u23 u24 u25 u26 u27 u28 u29 u30 u31 u32 u33 u34 u35 u36 u37 u38 u39 u40 u41 u42 u43 u44 u45 u46 u47 u48 u49 u50 u51 u52 u53 : Value), a' = { tmps := #[.pointer (some ⟨hb, 0, none⟩), .int .i64 (k : Int), u2, u3, u4, u5, u6, u7, u8, u9, u10, u11, u12, u13, u14, u15, u16, u17, u18, u19, u20, u21, u22, u23, u24, u25, u26, u27, u28, u29, u30, u31, u32, u33, u34, u35, u36, u37, u38, u39, u40, u41, u42, u43, u44, u45, u46, u47, u48, u49, u50, u51, u52, u53], defers := [] } ∧ k < n ∧ L'.length = n ∧ wr.heap[hb]? = some (.cells #[.slice (some ⟨g, 0, none⟩) n cap] 27 (0, 0)) ∧ wr.ownsRow B 30 3 (.slice (some ⟨g, 0, none⟩) n cap) n (flat3 L') ∧ riseF L' k = riseF L p ∧ w.grownBy wr (some g)) (fun a' _ => (intOf (a'.tmps.getD 1 undef)).toNat) rfl ?_ ?_
  · intro hbody
    have Hb := Lib.hid hbody
    clear hbody
    go_wp2
    go_step3
    refine (‹∀ (a : Act) (w : World), Code.wp _ _ _ a w → _›) _ _ (Hb.out _ _ ⟨p, L, _, _, _, _, _, _, _, _, _, _, _, _, _, _, _, _, _, _, _, _, _, _, _, _, _, _, _, _, _, _, _, _, _, _, _, _, _, _, _, _, _, _, _, _, _, _, _, _, _, _, _, _, rfl, hp, HL.out, HH.out, Own0.out, rfl, World.grownBy.refl _ _⟩)
  · rintro a' wr ⟨k, L', u2, u3, u4, u5, u6, u7, u8, u9, u10, u11, u12, u13, u14, u15, u16, u17, u18, u19, u20, u21, u22, u23, u24, u25, u26, u27, u28, u29, u30, u31, u32, u33, u34, u35, u36, u37, u38, u39, u40, u41, u42, u43, u44, u45, u46, u47, u48, u49, u50, u51, u52, u53, rfl, hk, hL', hH, hown, hR, hg⟩
    have HL' := Lib.hid hL'
    have H := Lib.hid hH
    have Own := Lib.hid hown
    have HR' := Lib.hid hR
    have G := Lib.hid hg
    clear hL' hH hown hR hg HH Own0 HL hp
    by_cases h0 : 0 < k
    · obtain ⟨a, ha⟩ : ∃ a, a = (k - 1) / 2 := ⟨_, rfl⟩
      have hak : a < n := by omega
      have e1 : ((k : Int) - 1) / 2 = (a : Int) := by omega
      have HRY := Lib.hid (riseF_yes (L := L') h0)
      have HRN := Lib.hid (riseF_no (L := L') (p := k))
      rw [← ha] at HRY HRN
      have HR := Lib.hid (less_any (L'.getD k e0) (L'.getD a e0))
      have CF : Hid (∀ w1, Grows wr w1 → w1.cell? ⟨hb, 0, none⟩ = some (.slice (some ⟨g, 0, none⟩) n cap) ∧ w1.cell? ⟨g, k * 3, none⟩ = some (.int .i64 (L'.getD k e0).1) ∧ w1.cell? ⟨g, k * 3 + 1, none⟩ = some (.int .i64 (L'.getD k e0).2.1) ∧ w1.cell? ⟨g, k * 3 + 2, none⟩ = some (.int .i64 (L'.getD k e0).2.2) ∧
          w1.cell? ⟨g, a * 3, none⟩ = some (.int .i64 (L'.getD a e0).1) ∧ w1.cell? ⟨g, a * 3 + 1, none⟩ = some (.int .i64 (L'.getD a e0).2.1) ∧ w1.cell? ⟨g, a * 3 + 2, none⟩ = some (.int .i64 (L'.getD a e0).2.2)) := Lib.hid fun w1 hg1 => by
        have o1 := ownsRow_grows' Own.out hg1
        obtain ⟨x1, x2, x3⟩ := own3_cells o1 HL'.out hk
        obtain ⟨y1, y2, y3⟩ := own3_cells o1 HL'.out hak
        have hh := hg1.block H.out
        exact ⟨by simp [World.cell?, hh], x1, x2, x3, y1, y2, y3⟩
      generalize hex : L'.getD k e0 = ex at CF HR HRY HRN
      generalize hax : L'.getD a e0 = ax at CF HR HRY HRN
      obtain ⟨rr, hrr⟩ : ∃ rr, rr = lessE ex ax := ⟨_, rfl⟩
      rw [← hrr] at HR HRY HRN
      have HEX := Lib.hid hex
      have HAX := Lib.hid hax
      have hak2 : a < k := by omega
      clear hex hax hrr ha
      go_wp2_with fail
      refine wp_region_tab 19 (by kernel_rfl) (by kernel_rfl) ?_
      intro w0 hw0 hg1 hg1'
      simp only [List.take_succ_cons, List.take_zero, List.drop_succ_cons, List.drop_zero]
      refine tab_val (.int .i64 (k : Int)) (fun r w1 hr hg hA => by obtain ⟨q0, -⟩ := hA; have q0e : r (.tmp 1) = .int .i64 (k : Int) := q0; exact ⟨rfl, by simp [go_sem, q0e]⟩) ?_
      refine tab_val (.bool true) (fun r w1 hr hg hA => by obtain ⟨⟨_, q0⟩, -⟩ := hA; have q0e : r (.tmp 8) = .int .i64 (k : Int) := q0; exact ⟨rfl, by simp [go_sem, hr.const, q0e, h0]⟩) ?_
      refine tab_val (.bool true) (fun r w1 hr hg hA => by obtain ⟨⟨_, q0⟩, -⟩ := hA; have q0e : r (.tmp 9) = .bool true := q0; exact ⟨rfl, by simp [go_sem, q0e]⟩) ?_
      refine tab_val (.pointer (some ⟨hb, 0, none⟩)) (fun r w1 hr hg hA => by obtain ⟨q0, ⟨_, q1⟩, -⟩ := hA; have q0e : r (.tmp 0) = .pointer (some ⟨hb, 0, none⟩) := q0; have q1e : r (.tmp 10) = .bool true := q1; exact ⟨⟨_, q1e, rfl⟩, by simp [go_sem, q0e]⟩) ?_
      refine tab_val (.pointer (some ⟨hb, 0, none⟩)) (fun r w1 hr hg hA => by obtain ⟨⟨_, q0⟩, ⟨_, q1⟩, -⟩ := hA; have q0e : r (.tmp 11) = .pointer (some ⟨hb, 0, none⟩) := q0; have q1e : r (.tmp 10) = .bool true := q1; exact ⟨⟨_, q1e, rfl⟩, by simp [go_sem, q0e]⟩) ?_
      refine tab_val (.pointer (some ⟨hb, 0, none⟩)) (fun r w1 hr hg hA => by obtain ⟨⟨_, q0⟩, ⟨_, q1⟩, -⟩ := hA; have q0e : r (.tmp 12) = .pointer (some ⟨hb, 0, none⟩) := q0; have q1e : r (.tmp 10) = .bool true := q1; exact ⟨⟨_, q1e, rfl⟩, by simp [go_sem, q0e]⟩) ?_
      refine tab_val (.slice (some ⟨g, 0, none⟩) n cap) (fun r w1 hr hg hA => by obtain ⟨⟨_, q0⟩, ⟨_, q1⟩, -⟩ := hA; have q0e : r (.tmp 13) = .pointer (some ⟨hb, 0, none⟩) := q0; have q1e : r (.tmp 10) = .bool true := q1; have hc := CF.out _ (hg1.trans hg); exact ⟨⟨_, q1e, rfl⟩, by simp [go_sem, q0e, hc]⟩) ?_
      refine tab_val (.int .i64 (k : Int)) (fun r w1 hr hg hA => by obtain ⟨q0, ⟨_, q1⟩, -⟩ := hA; have q0e : r (.tmp 1) = .int .i64 (k : Int) := q0; have q1e : r (.tmp 10) = .bool true := q1; exact ⟨⟨_, q1e, rfl⟩, by simp [go_sem, q0e]⟩) ?_
      refine tab_val (.pointer (some ⟨g, k * 3, none⟩)) (fun r w1 hr hg hA => by obtain ⟨⟨_, q0⟩, ⟨_, q1⟩, ⟨_, q2⟩, -⟩ := hA; have q0e : r (.tmp 14) = .slice (some ⟨g, 0, none⟩) n cap := q0; have q1e : r (.tmp 15) = .int .i64 (k : Int) := q1; have q2e : r (.tmp 10) = .bool true := q2; exact ⟨⟨_, q2e, rfl⟩, by simp [go_sem, q0e, q1e, hk]⟩) ?_
      refine tab_val (en ex) (fun r w1 hr hg hA => by obtain ⟨⟨_, q0⟩, ⟨_, q1⟩, -⟩ := hA; have q0e : r (.tmp 16) = .pointer (some ⟨g, k * 3, none⟩) := q0; have q1e : r (.tmp 10) = .bool true := q1; have hc := CF.out _ (hg1.trans hg); exact ⟨⟨_, q1e, rfl⟩, by simp [go_sem, q0e, hc]⟩) ?_
      refine tab_val (.pointer (some ⟨hb, 0, none⟩)) (fun r w1 hr hg hA => by obtain ⟨q0, ⟨_, q1⟩, -⟩ := hA; have q0e : r (.tmp 0) = .pointer (some ⟨hb, 0, none⟩) := q0; have q1e : r (.tmp 10) = .bool true := q1; exact ⟨⟨_, q1e, rfl⟩, by simp [go_sem, q0e]⟩) ?_
      refine tab_val (.pointer (some ⟨hb, 0, none⟩)) (fun r w1 hr hg hA => by obtain ⟨⟨_, q0⟩, ⟨_, q1⟩, -⟩ := hA; have q0e : r (.tmp 18) = .pointer (some ⟨hb, 0, none⟩) := q0; have q1e : r (.tmp 10) = .bool true := q1; exact ⟨⟨_, q1e, rfl⟩, by simp [go_sem, q0e]⟩) ?_
      refine tab_val (.pointer (some ⟨hb, 0, none⟩)) (fun r w1 hr hg hA => by obtain ⟨⟨_, q0⟩, ⟨_, q1⟩, -⟩ := hA; have q0e : r (.tmp 19) = .pointer (some ⟨hb, 0, none⟩) := q0; have q1e : r (.tmp 10) = .bool true := q1; exact ⟨⟨_, q1e, rfl⟩, by simp [go_sem, q0e]⟩) ?_
      refine tab_val (.slice (some ⟨g, 0, none⟩) n cap) (fun r w1 hr hg hA => by obtain ⟨⟨_, q0⟩, ⟨_, q1⟩, -⟩ := hA; have q0e : r (.tmp 20) = .pointer (some ⟨hb, 0, none⟩) := q0; have q1e : r (.tmp 10) = .bool true := q1; have hc := CF.out _ (hg1.trans hg); exact ⟨⟨_, q1e, rfl⟩, by simp [go_sem, q0e, hc]⟩) ?_
      refine tab_val (.int .i64 (((k : Int) - 1) / 2)) (fun r w1 hr hg hA => by obtain ⟨q0, ⟨_, q1⟩, -⟩ := hA; have q0e : r (.tmp 4) = .int .i64 (((k : Int) - 1) / 2) := q0; have q1e : r (.tmp 10) = .bool true := q1; exact ⟨⟨_, q1e, rfl⟩, by simp [go_sem, q0e]⟩) ?_
      refine tab_val (.pointer (some ⟨g, a * 3, none⟩)) (fun r w1 hr hg hA => by obtain ⟨⟨_, q0⟩, ⟨_, q1⟩, ⟨_, q2⟩, -⟩ := hA; have q0e : r (.tmp 21) = .slice (some ⟨g, 0, none⟩) n cap := q0; have q1e : r (.tmp 22) = .int .i64 (((k : Int) - 1) / 2) := q1; have q2e : r (.tmp 10) = .bool true := q2; exact ⟨⟨_, q2e, rfl⟩, by simp [go_sem, q0e, q1e, hak, e1]⟩) ?_
      refine tab_val (en ax) (fun r w1 hr hg hA => by obtain ⟨⟨_, q0⟩, ⟨_, q1⟩, -⟩ := hA; have q0e : r (.tmp 23) = .pointer (some ⟨g, a * 3, none⟩) := q0; have q1e : r (.tmp 10) = .bool true := q1; have hc := CF.out _ (hg1.trans hg); exact ⟨⟨_, q1e, rfl⟩, by simp [go_sem, q0e, hc]⟩) ?_
      refine tab_call (v := .bool rr) (fun w1 hg => HR.out w1) (fun r w1 hr hg hA => by obtain ⟨⟨_, q0⟩, ⟨_, q1⟩, ⟨_, q2⟩, -⟩ := hA; have q0e : r (.tmp 17) = en ex := q0; have q1e : r (.tmp 24) = en ax := q1; have q2e : r (.tmp 10) = .bool true := q2; exact ⟨⟨_, q2e, rfl⟩, by simp [go_sem, hr.func, q0e, q1e]⟩) ?_
      refine tab_val (.bool rr) (fun r w1 hr hg hA => by obtain ⟨⟨_, q0⟩, ⟨_, q1⟩, -⟩ := hA; have q0e : r (.tmp 10) = .bool true := q0; have q1e : r (.tmp 25) = .bool rr := q1; exact ⟨rfl, by simp [go_sem, q0e, q1e]⟩) ?_
      refine tab_end ?_
      simp only [List.reverse_cons, List.reverse_nil, List.nil_append, List.cons_append, Out, BlockP, forall_eq, forall_const, Act.put, List.setIfInBounds_toArray, List.set_cons_succ, List.set_cons_zero]
      intro wA hgA
      have GA := Lib.hid (hg1.trans hgA)
      clear hg1 hgA hg1' hw0
      cases rr with
      | true =>
        obtain ⟨q0, x1, x2, x3, y1, y2, y3⟩ := CF.out _ GA.out
        have OA := Lib.hid (ownsRow_grows' Own.out GA.out)
        have f1 := OA.out.frozenAt (k * 3)
        have f2 := OA.out.frozenAt (k * 3 + 1)
        have f3 := OA.out.frozenAt (k * 3 + 2)
        have f4 := OA.out.frozenAt (a * 3)
        have f5 := OA.out.frozenAt (a * 3 + 1)
        have f6 := OA.out.frozenAt (a * 3 + 2)
        have hgb' : ¬ g = hb := fun h => hgb h.symm
        obtain ⟨ea, eb, ec⟩ := ex
        obtain ⟨pa, pb, pc⟩ := ax
        simp only at x1 x2 x3 y1 y2 y3
        clear CF HR
        go_wp2_with fail
        go_region
        have S1 := own3_set OA.out HL'.out hk (pa, pb, pc)
        have S2 := own3_set S1.1 (by rw [List.length_set]; exact HL'.out) hak (ea, eb, ec)
        have OW := Lib.hid (World.ownsRow.drew S2.1)
        have GW := Lib.hid (grownBy_trans (grownBy_trans (grownBy_trans (grownBy_of (r := some g) GA.out) S1.2) S2.2) (grownBy_of (Grows.refl _).dr))
        clear S1 S2 x1 x2 x3 y1 y2 y3 f1 f2 f3 f4 f5 f6 q0
        go_wp2
        go_step3
        refine ⟨rfl, ⟨a, swapF L' k a, _, _, _, _, _, _, _, _, _, _, _, _, _, _, _, _, _, _, _, _, _, _, _, _, _, _, _, _, _, _, _, _, _, _, _, _, _, _, _, _, _, _, _, _, _, _, _, _, _, _, _, _, rfl, hak, by rw [swapF_len]; exact HL'.out, ?_, ?_, ?_, ?_⟩, by simp [intOf]; omega⟩
        · rw [← H.out]
          exact GW.out.block hb (Array.getElem?_eq_some_iff.1 H.out).1 (fun h => hgb (Option.some.inj h))
        · have := OW.out
          unfold swapF
          rw [HEX.out, HAX.out]
          exact this
        · rw [← HR'.out, ← HRY.out (by first | rfl | trivial)]
        · exact grownBy_trans G.out GW.out
      | false =>
        go_wp2
        simp only [Exit.jump]
        show bodyPost Try.prog Try.f22 _ Exit.normal _ _
        go_end0
        refine ⟨rfl, ?_, grownBy_trans G.out (grownBy_of GA.out)⟩
        rw [← HR'.out, HRN.out (by first | rfl | trivial)]
        exact ownsRow_grows' Own.out GA.out
    · have hk0 : k = 0 := by omega
      subst hk0
      go_wp2_with fail
      go_quiet (fail)
      rename_i nq
      have gd : Grows wr (wr.drewN nq) := ⟨rfl, rfl, rfl, Nat.le_refl _, fun _ _ => rfl⟩
      have GD := Lib.hid gd
      clear gd
      go_wp2
      simp only [Exit.jump]
      show bodyPost Try.prog Try.f22 _ Exit.normal _ _
      go_end0
      refine ⟨rfl, ?_, grownBy_trans G.out (grownBy_of GD.out)⟩
      rw [← HR'.out, riseF_zero]
      exact ownsRow_grows' Own.out GD.out
end Go.Proofs.Ytcmlcoedgfehgaa
