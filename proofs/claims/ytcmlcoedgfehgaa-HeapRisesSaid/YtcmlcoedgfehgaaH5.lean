/-
  Layer 5: an entry brought down.
-/
import Derived.Test.YtcmlcoedgfehgaaH3
namespace Go.Proofs.Ytcmlcoedgfehgaa
open Go.RowKit Go.Tab Go.WideShapes

/-- The least of an entry and of the first j of those below it. -/
def lstF (L : List Ent3) (k : Nat) : Nat → Nat
  | 0 => k
  | j + 1 => if 2 * k + 1 + j < L.length ∧ lessE (L.getD (2 * k + 1 + j) e0) (L.getD (lstF L k j) e0) = true then 2 * k + 1 + j else lstF L k j
theorem lstF_lt (L : List Ent3) (k j : Nat) : lstF L k j = k ∨ (k < lstF L k j ∧ lstF L k j < L.length) := by
  induction j with
  | zero => exact .inl rfl
  | succ j ih =>
    unfold lstF
    split
    · rename_i h; exact .inr ⟨by omega, h.1⟩
    · exact ih
def sinkF (L : List Ent3) (k : Nat) : List Ent3 :=
  if h : lstF L k 2 = k then L else sinkF (swapF L k (lstF L k 2)) (lstF L k 2)
termination_by L.length - k
decreasing_by
  have := lstF_lt L k 2
  rw [swapF_len]
  omega
theorem sinkF_no {L : List Ent3} {k : Nat} (h : lstF L k 2 = k) : sinkF L k = L := by rw [sinkF, dif_pos h]
theorem sinkF_yes {L : List Ent3} {k : Nat} (h : ¬ lstF L k 2 = k) : sinkF L k = sinkF (swapF L k (lstF L k 2)) (lstF L k 2) := by rw [sinkF, dif_neg h]
theorem sinkF_len (L : List Ent3) (k : Nat) : (sinkF L k).length = L.length := by
  generalize hm : L.length - k = m
  induction m using Nat.strongRecOn generalizing L k with
  | _ m ih =>
    by_cases h : lstF L k 2 = k
    · rw [sinkF_no h]
    · have := lstF_lt L k 2
      rw [sinkF_yes h, ih (L.length - lstF L k 2) (by omega) (swapF L k (lstF L k 2)) _ (by rw [swapF_len]), swapF_len]

set_option maxRecDepth 100000 in
set_option maxHeartbeats 4000000 in
theorem sink_any (L : List Ent3) (B hb g n cap p : Nat) (w : World) (hL : L.length = n) (hp : p < n) (hn : n ≤ 1000000) (hgb : ¬ hb = g)
    (hH : w.heap[hb]? = some (.cells #[.slice (some ⟨g, 0, none⟩) n cap] 27 (0, 0))) (hown : w.ownsRow B 30 3 (.slice (some ⟨g, 0, none⟩) n cap) n (flat3 L)) :
    Calls Try.prog 23 #[.pointer (some ⟨hb, 0, none⟩), iv p] w (fun e w' => e = .returned (.tuple #[]) ∧ w'.ownsRow B 30 3 (.slice (some ⟨g, 0, none⟩) n cap) n (flat3 (sinkF L p)) ∧ w.grownBy w' (some g)) := by
  have HH := Lib.hid hH
  have Own0 := Lib.hid hown
  have HL := Lib.hid hL
  clear hH hown hL
  go_enter Try.func23, Try.ntmps23
  go_wp2
  refine wp_scope_label 0 (fun a' wr => ∃ (k : Nat) (L' : List Ent3) (u2 u3 u5 u6 u7 u8 u9 u10 u11 u12 u13 u14 u15 u16 u17 u18 u19 u20 u21 u22 u23 u24 u25 u26 u27 u28 u29 u30 u31 u32 u33 u34 u35 u36 u37 u38 u39 u40 u41 u42 u43 u44 u45 u46 u47 u48 u49 u50 u51 u52 u53 u54 u55 u56 u57 u58 u59 u60 u61 u62 u63 u64 u65 u66 u67 u68 u69 u70 u71 : Value), a' = { tmps := #[.pointer (some ⟨hb, 0, none⟩), .int .i64 (k : Int), u2, u3, .int .i64 (k : Int), u5, u6, u7, u8, u9, u10, u11, u12, u13, u14, u15, u16, u17, u18, u19, u20, u21, u22, u23, u24, u25, u26, u27, u28, u29, u30, u31, u32, u33, u34, u35, u36, u37, u38, u39, u40, u41, u42, u43, u44, u45, u46, u47, u48, u49, u50, u51, u52, u53, u54, u55, u56, u57, u58, u59, u60, u61, u62, u63, u64, u65, u66, u67, u68, u69, u70, u71], defers := [] } ∧ k < n ∧ L'.length = n ∧ wr.heap[hb]? = some (.cells #[.slice (some ⟨g, 0, none⟩) n cap] 27 (0, 0)) ∧ wr.ownsRow B 30 3 (.slice (some ⟨g, 0, none⟩) n cap) n (flat3 L') ∧ sinkF L' k = sinkF L p ∧ w.grownBy wr (some g)) (fun a' _ => n - (intOf (a'.tmps.getD 1 undef)).toNat) rfl ?_ ?_
  · intro hbody
    have Hb := Lib.hid hbody
    clear hbody
    go_wp2
    go_step3
    refine (‹∀ (a : Act) (w : World), Code.wp _ _ _ a w → _›) _ _ (Hb.out _ _ ⟨p, L, _, _, _, _, _, _, _, _, _, _, _, _, _, _, _, _, _, _, _, _, _, _, _, _, _, _, _, _, _, _, _, _, _, _, _, _, _, _, _, _, _, _, _, _, _, _, _, _, _, _, _, _, _, _, _, _, _, _, _, _, _, _, _, _, _, _, _, _, _, rfl, hp, HL.out, HH.out, Own0.out, rfl, World.grownBy.refl _ _⟩)
  · rintro a' wo ⟨k, L', u2, u3, u5, u6, u7, u8, u9, u10, u11, u12, u13, u14, u15, u16, u17, u18, u19, u20, u21, u22, u23, u24, u25, u26, u27, u28, u29, u30, u31, u32, u33, u34, u35, u36, u37, u38, u39, u40, u41, u42, u43, u44, u45, u46, u47, u48, u49, u50, u51, u52, u53, u54, u55, u56, u57, u58, u59, u60, u61, u62, u63, u64, u65, u66, u67, u68, u69, u70, u71, rfl, hk, hL', hH, hown, hR, hg⟩
    have HL' := Lib.hid hL'
    have H := Lib.hid hH
    have Own := Lib.hid hown
    have HR' := Lib.hid hR
    have G := Lib.hid hg
    clear hL' hH hown hR hg HH Own0 HL hp
    go_wp2
    go_loopw [4, 5] (fun s i wr => ∃ (c m : Nat), s = .int .i64 (c : Int) ∧ i = .int .i64 (m : Int) ∧ 2 * k + 1 ≤ m ∧ m ≤ 2 * k + 3 ∧ c = lstF L' k (m - (2 * k + 1)) ∧ Grows wo wr) (fun _ i _ => 2 * k + 3 - (intOf i).toNat)
    case atStart => exact ⟨k, 2 * k + 1, rfl, by simp, by omega, by omega, by rw [Nat.sub_self]; rfl, Grows.refl _⟩
    case round =>
      obtain ⟨c, m, rfl, rfl, hm1, hm2, hc, hg⟩ := hrel
      have GW := Lib.hid hg
      have hcn : c < n := by have := lstF_lt L' k (m - (2 * k + 1)); rw [HL'.out] at this; omega
      have HC := Lib.hid hc
      clear hg hc
      by_cases hmk : m ≤ 2 * k + 2
      · by_cases hmn : m < n
        · have HR := Lib.hid (less_any (L'.getD m e0) (L'.getD c e0))
          have CF : Hid (∀ w1, Grows wr w1 → w1.cell? ⟨hb, 0, none⟩ = some (.slice (some ⟨g, 0, none⟩) n cap) ∧ w1.cell? ⟨g, m * 3, none⟩ = some (.int .i64 (L'.getD m e0).1) ∧ w1.cell? ⟨g, m * 3 + 1, none⟩ = some (.int .i64 (L'.getD m e0).2.1) ∧ w1.cell? ⟨g, m * 3 + 2, none⟩ = some (.int .i64 (L'.getD m e0).2.2) ∧
              w1.cell? ⟨g, c * 3, none⟩ = some (.int .i64 (L'.getD c e0).1) ∧ w1.cell? ⟨g, c * 3 + 1, none⟩ = some (.int .i64 (L'.getD c e0).2.1) ∧ w1.cell? ⟨g, c * 3 + 2, none⟩ = some (.int .i64 (L'.getD c e0).2.2)) := Lib.hid fun w1 hg1 => by
            have o1 := ownsRow_grows' Own.out (GW.out.trans hg1)
            obtain ⟨x1, x2, x3⟩ := own3_cells o1 HL'.out hmn
            obtain ⟨y1, y2, y3⟩ := own3_cells o1 HL'.out hcn
            have hh := (GW.out.trans hg1).block H.out
            exact ⟨by simp [World.cell?, hh], x1, x2, x3, y1, y2, y3⟩
          have HS : Hid (∀ b, b = lessE (L'.getD m e0) (L'.getD c e0) → lstF L' k (m + 1 - (2 * k + 1)) = if b = true then m else c) := Lib.hid fun b hb => by
            rw [show m + 1 - (2 * k + 1) = (m - (2 * k + 1)) + 1 by omega, lstF, ← HC.out, show 2 * k + 1 + (m - (2 * k + 1)) = m by omega, HL'.out, hb]
            cases lessE (L'.getD m e0) (L'.getD c e0) <;> simp [hmn]
          generalize hex : L'.getD m e0 = ex at CF HR HS
          generalize hax : L'.getD c e0 = ax at CF HR HS
          obtain ⟨rr, hrr⟩ : ∃ rr, rr = lessE ex ax := ⟨_, rfl⟩
          have HSS := Lib.hid (HS.out rr hrr)
          rw [← hrr] at HR
          clear hex hax hrr HS
          go_wp2_with fail
          refine wp_region_tab 24 (by kernel_rfl) (by kernel_rfl) ?_
          intro w0 hw0 hg1 hg1'
          simp only [List.take_succ_cons, List.take_zero, List.drop_succ_cons, List.drop_zero]
          refine tab_val (.int .i64 (m : Int)) (fun r w1 hr hg hA => by obtain ⟨q0, -⟩ := hA; have q0e : r (.tmp 5) = .int .i64 (m : Int) := q0; exact ⟨rfl, by simp [go_sem, q0e]⟩) ?_
          refine tab_val (.pointer (some ⟨hb, 0, none⟩)) (fun r w1 hr hg hA => by obtain ⟨q0, -⟩ := hA; have q0e : r (.tmp 0) = .pointer (some ⟨hb, 0, none⟩) := q0; exact ⟨rfl, by simp [go_sem, q0e]⟩) ?_
          refine tab_val (.pointer (some ⟨hb, 0, none⟩)) (fun r w1 hr hg hA => by obtain ⟨⟨_, q0⟩, -⟩ := hA; have q0e : r (.tmp 18) = .pointer (some ⟨hb, 0, none⟩) := q0; exact ⟨rfl, by simp [go_sem, q0e]⟩) ?_
          refine tab_val (.pointer (some ⟨hb, 0, none⟩)) (fun r w1 hr hg hA => by obtain ⟨⟨_, q0⟩, -⟩ := hA; have q0e : r (.tmp 19) = .pointer (some ⟨hb, 0, none⟩) := q0; exact ⟨rfl, by simp [go_sem, q0e]⟩) ?_
          refine tab_val (.slice (some ⟨g, 0, none⟩) n cap) (fun r w1 hr hg hA => by obtain ⟨⟨_, q0⟩, -⟩ := hA; have q0e : r (.tmp 20) = .pointer (some ⟨hb, 0, none⟩) := q0; have hc := CF.out _ (hg1.trans hg); exact ⟨rfl, by simp [go_sem, q0e, hc]⟩) ?_
          refine tab_val (.int .i64 (n : Int)) (fun r w1 hr hg hA => by obtain ⟨⟨_, q0⟩, -⟩ := hA; have q0e : r (.tmp 21) = .slice (some ⟨g, 0, none⟩) n cap := q0; exact ⟨rfl, by simp [go_sem, q0e]⟩) ?_
          refine tab_val (.bool true) (fun r w1 hr hg hA => by obtain ⟨⟨_, q0⟩, ⟨_, q1⟩, -⟩ := hA; have q0e : r (.tmp 17) = .int .i64 (m : Int) := q0; have q1e : r (.tmp 22) = .int .i64 (n : Int) := q1; exact ⟨rfl, by simp [go_sem, q0e, q1e, hmn]⟩) ?_
          refine tab_val (.bool true) (fun r w1 hr hg hA => by obtain ⟨⟨_, q0⟩, -⟩ := hA; have q0e : r (.tmp 23) = .bool true := q0; exact ⟨rfl, by simp [go_sem, q0e]⟩) ?_
          refine tab_val (.pointer (some ⟨hb, 0, none⟩)) (fun r w1 hr hg hA => by obtain ⟨q0, ⟨_, q1⟩, -⟩ := hA; have q0e : r (.tmp 0) = .pointer (some ⟨hb, 0, none⟩) := q0; have q1e : r (.tmp 24) = .bool true := q1; exact ⟨⟨_, q1e, rfl⟩, by simp [go_sem, q0e]⟩) ?_
          refine tab_val (.pointer (some ⟨hb, 0, none⟩)) (fun r w1 hr hg hA => by obtain ⟨⟨_, q0⟩, ⟨_, q1⟩, -⟩ := hA; have q0e : r (.tmp 25) = .pointer (some ⟨hb, 0, none⟩) := q0; have q1e : r (.tmp 24) = .bool true := q1; exact ⟨⟨_, q1e, rfl⟩, by simp [go_sem, q0e]⟩) ?_
          refine tab_val (.pointer (some ⟨hb, 0, none⟩)) (fun r w1 hr hg hA => by obtain ⟨⟨_, q0⟩, ⟨_, q1⟩, -⟩ := hA; have q0e : r (.tmp 26) = .pointer (some ⟨hb, 0, none⟩) := q0; have q1e : r (.tmp 24) = .bool true := q1; exact ⟨⟨_, q1e, rfl⟩, by simp [go_sem, q0e]⟩) ?_
          refine tab_val (.slice (some ⟨g, 0, none⟩) n cap) (fun r w1 hr hg hA => by obtain ⟨⟨_, q0⟩, ⟨_, q1⟩, -⟩ := hA; have q0e : r (.tmp 27) = .pointer (some ⟨hb, 0, none⟩) := q0; have q1e : r (.tmp 24) = .bool true := q1; have hc := CF.out _ (hg1.trans hg); exact ⟨⟨_, q1e, rfl⟩, by simp [go_sem, q0e, hc]⟩) ?_
          refine tab_val (.int .i64 (m : Int)) (fun r w1 hr hg hA => by obtain ⟨q0, ⟨_, q1⟩, -⟩ := hA; have q0e : r (.tmp 5) = .int .i64 (m : Int) := q0; have q1e : r (.tmp 24) = .bool true := q1; exact ⟨⟨_, q1e, rfl⟩, by simp [go_sem, q0e]⟩) ?_
          refine tab_val (.pointer (some ⟨g, m * 3, none⟩)) (fun r w1 hr hg hA => by obtain ⟨⟨_, q0⟩, ⟨_, q1⟩, ⟨_, q2⟩, -⟩ := hA; have q0e : r (.tmp 28) = .slice (some ⟨g, 0, none⟩) n cap := q0; have q1e : r (.tmp 29) = .int .i64 (m : Int) := q1; have q2e : r (.tmp 24) = .bool true := q2; exact ⟨⟨_, q2e, rfl⟩, by simp [go_sem, q0e, q1e, hmn]⟩) ?_
          refine tab_val (en ex) (fun r w1 hr hg hA => by obtain ⟨⟨_, q0⟩, ⟨_, q1⟩, -⟩ := hA; have q0e : r (.tmp 30) = .pointer (some ⟨g, m * 3, none⟩) := q0; have q1e : r (.tmp 24) = .bool true := q1; have hc := CF.out _ (hg1.trans hg); exact ⟨⟨_, q1e, rfl⟩, by simp [go_sem, q0e, hc]⟩) ?_
          refine tab_val (.pointer (some ⟨hb, 0, none⟩)) (fun r w1 hr hg hA => by obtain ⟨q0, ⟨_, q1⟩, -⟩ := hA; have q0e : r (.tmp 0) = .pointer (some ⟨hb, 0, none⟩) := q0; have q1e : r (.tmp 24) = .bool true := q1; exact ⟨⟨_, q1e, rfl⟩, by simp [go_sem, q0e]⟩) ?_
          refine tab_val (.pointer (some ⟨hb, 0, none⟩)) (fun r w1 hr hg hA => by obtain ⟨⟨_, q0⟩, ⟨_, q1⟩, -⟩ := hA; have q0e : r (.tmp 32) = .pointer (some ⟨hb, 0, none⟩) := q0; have q1e : r (.tmp 24) = .bool true := q1; exact ⟨⟨_, q1e, rfl⟩, by simp [go_sem, q0e]⟩) ?_
          refine tab_val (.pointer (some ⟨hb, 0, none⟩)) (fun r w1 hr hg hA => by obtain ⟨⟨_, q0⟩, ⟨_, q1⟩, -⟩ := hA; have q0e : r (.tmp 33) = .pointer (some ⟨hb, 0, none⟩) := q0; have q1e : r (.tmp 24) = .bool true := q1; exact ⟨⟨_, q1e, rfl⟩, by simp [go_sem, q0e]⟩) ?_
          refine tab_val (.slice (some ⟨g, 0, none⟩) n cap) (fun r w1 hr hg hA => by obtain ⟨⟨_, q0⟩, ⟨_, q1⟩, -⟩ := hA; have q0e : r (.tmp 34) = .pointer (some ⟨hb, 0, none⟩) := q0; have q1e : r (.tmp 24) = .bool true := q1; have hc := CF.out _ (hg1.trans hg); exact ⟨⟨_, q1e, rfl⟩, by simp [go_sem, q0e, hc]⟩) ?_
          refine tab_val (.int .i64 (c : Int)) (fun r w1 hr hg hA => by obtain ⟨q0, ⟨_, q1⟩, -⟩ := hA; have q0e : r (.tmp 4) = .int .i64 (c : Int) := q0; have q1e : r (.tmp 24) = .bool true := q1; exact ⟨⟨_, q1e, rfl⟩, by simp [go_sem, q0e]⟩) ?_
          refine tab_val (.pointer (some ⟨g, c * 3, none⟩)) (fun r w1 hr hg hA => by obtain ⟨⟨_, q0⟩, ⟨_, q1⟩, ⟨_, q2⟩, -⟩ := hA; have q0e : r (.tmp 35) = .slice (some ⟨g, 0, none⟩) n cap := q0; have q1e : r (.tmp 36) = .int .i64 (c : Int) := q1; have q2e : r (.tmp 24) = .bool true := q2; exact ⟨⟨_, q2e, rfl⟩, by simp [go_sem, q0e, q1e, hcn]⟩) ?_
          refine tab_val (en ax) (fun r w1 hr hg hA => by obtain ⟨⟨_, q0⟩, ⟨_, q1⟩, -⟩ := hA; have q0e : r (.tmp 37) = .pointer (some ⟨g, c * 3, none⟩) := q0; have q1e : r (.tmp 24) = .bool true := q1; have hc := CF.out _ (hg1.trans hg); exact ⟨⟨_, q1e, rfl⟩, by simp [go_sem, q0e, hc]⟩) ?_
          refine tab_call (v := .bool rr) (fun w1 hg => HR.out w1) (fun r w1 hr hg hA => by obtain ⟨⟨_, q0⟩, ⟨_, q1⟩, ⟨_, q2⟩, -⟩ := hA; have q0e : r (.tmp 31) = en ex := q0; have q1e : r (.tmp 38) = en ax := q1; have q2e : r (.tmp 24) = .bool true := q2; exact ⟨⟨_, q2e, rfl⟩, by simp [go_sem, hr.func, q0e, q1e]⟩) ?_
          refine tab_val (.bool rr) (fun r w1 hr hg hA => by obtain ⟨⟨_, q0⟩, ⟨_, q1⟩, -⟩ := hA; have q0e : r (.tmp 24) = .bool true := q0; have q1e : r (.tmp 39) = .bool rr := q1; exact ⟨rfl, by simp [go_sem, q0e, q1e]⟩) ?_
          refine tab_end ?_
          simp only [List.reverse_cons, List.reverse_nil, List.nil_append, List.cons_append, Out, BlockP, forall_eq, forall_const, Act.put, List.setIfInBounds_toArray, List.set_cons_succ, List.set_cons_zero]
          intro wA hgA
          have GA := Lib.hid (GW.out.trans (hg1.trans hgA))
          clear hg1 hgA hg1' hw0 HR CF
          cases rr with
          | true =>
            go_wp2
            exact ⟨⟨m, m + 1, rfl, by simp, by omega, by omega, by rw [HSS.out]; rfl, GA.out⟩, by simp only [intOf]; omega⟩
          | false =>
            go_wp2
            exact ⟨⟨c, m + 1, rfl, by simp, by omega, by omega, by rw [HSS.out]; rfl, GA.out⟩, by simp only [intOf]; omega⟩
        · have c0 : wr.cell? ⟨hb, 0, none⟩ = some (.slice (some ⟨g, 0, none⟩) n cap) := by
            have hh := GW.out.block H.out
            simp [World.cell?, hh]
          have HS : Hid (lstF L' k (m + 1 - (2 * k + 1)) = c) := Lib.hid (by
            rw [show m + 1 - (2 * k + 1) = (m - (2 * k + 1)) + 1 by omega, lstF, ← HC.out, show 2 * k + 1 + (m - (2 * k + 1)) = m by omega, HL'.out, if_neg (by omega)])
          go_wp2_with fail
          go_quiet (fail)
          rename_i nq
          have gd : Grows wr (wr.drewN nq) := ⟨rfl, rfl, rfl, Nat.le_refl _, fun _ _ => rfl⟩
          have GD := Lib.hid (GW.out.trans gd)
          clear gd
          go_wp2
          exact ⟨⟨c, m + 1, rfl, by simp, by omega, by omega, HS.out.symm, GD.out⟩, by simp only [intOf]; omega⟩
      · have hcl : c = lstF L' k 2 := by rw [HC.out, show m - (2 * k + 1) = 2 by omega]
        have HCL := Lib.hid hcl
        clear hcl HC
        by_cases hck : c = k
        · subst hck
          go_wp2
          simp only [Exit.jump]
          show bodyPost Try.prog Try.f23 _ Exit.normal _ _
          go_end0
          refine ⟨rfl, ?_, grownBy_trans G.out (grownBy_of GW.out)⟩
          rw [← HR'.out, sinkF_no HCL.out.symm]
          exact ownsRow_grows' Own.out GW.out
        · obtain ⟨x1, x2, x3⟩ := own3_cells (ownsRow_grows' Own.out GW.out) HL'.out hk
          obtain ⟨y1, y2, y3⟩ := own3_cells (ownsRow_grows' Own.out GW.out) HL'.out hcn
          have q0 : wr.cell? ⟨hb, 0, none⟩ = some (.slice (some ⟨g, 0, none⟩) n cap) := by
            have hh := GW.out.block H.out
            simp [World.cell?, hh]
          have OA := Lib.hid (ownsRow_grows' Own.out GW.out)
          have f1 := OA.out.frozenAt (k * 3)
          have f2 := OA.out.frozenAt (k * 3 + 1)
          have f3 := OA.out.frozenAt (k * 3 + 2)
          have f4 := OA.out.frozenAt (c * 3)
          have f5 := OA.out.frozenAt (c * 3 + 1)
          have f6 := OA.out.frozenAt (c * 3 + 2)
          have hgb' : ¬ g = hb := fun h => hgb h.symm
          have hkc : k < c := by have := lstF_lt L' k 2; rw [← HCL.out] at this; omega
          have HRY : Hid (sinkF (swapF L' k c) c = sinkF L p) := Lib.hid (by rw [← HR'.out, sinkF_yes (L := L') (k := k) (by rw [← HCL.out]; exact hck), ← HCL.out])
          obtain ⟨ex, hex⟩ : ∃ e, e = L'.getD k e0 := ⟨_, rfl⟩
          obtain ⟨ax, hax⟩ : ∃ e, e = L'.getD c e0 := ⟨_, rfl⟩
          rw [← hex] at x1 x2 x3
          rw [← hax] at y1 y2 y3
          have HEX := Lib.hid hex
          have HAX := Lib.hid hax
          clear hex hax
          obtain ⟨ea, eb, ec⟩ := ex
          obtain ⟨pa, pb, pc⟩ := ax
          simp only at x1 x2 x3 y1 y2 y3
          go_wp2_with fail
          go_region
          have S1 := own3_set OA.out HL'.out hk (pa, pb, pc)
          have S2 := own3_set S1.1 (by rw [List.length_set]; exact HL'.out) hcn (ea, eb, ec)
          have OW := Lib.hid (World.ownsRow.drew S2.1)
          have GW2 := Lib.hid (grownBy_trans (grownBy_trans (grownBy_trans (grownBy_of (r := some g) GW.out) S1.2) S2.2) (grownBy_of (Grows.refl _).dr))
          clear S1 S2 x1 x2 x3 y1 y2 y3 f1 f2 f3 f4 f5 f6 q0
          go_wp2
          go_step3
          refine ⟨rfl, ⟨c, swapF L' k c, _, _, _, _, _, _, _, _, _, _, _, _, _, _, _, _, _, _, _, _, _, _, _, _, _, _, _, _, _, _, _, _, _, _, _, _, _, _, _, _, _, _, _, _, _, _, _, _, _, _, _, _, _, _, _, _, _, _, _, _, _, _, _, _, _, _, _, _, _, rfl, hcn, by rw [swapF_len]; exact HL'.out, ?_, ?_, HRY.out, grownBy_trans G.out GW2.out⟩, by simp [intOf]; omega⟩
          · rw [← H.out]
            exact GW2.out.block hb (Array.getElem?_eq_some_iff.1 H.out).1 (fun h => hgb (Option.some.inj h))
          · have := OW.out
            unfold swapF
            rw [← HEX.out, ← HAX.out]
            exact this
end Go.Proofs.Ytcmlcoedgfehgaa
