/-
  Layer 4: two rows merged (pts).
-/
import Derived.Test.YtigbojdnaeaojaaO2p
namespace Go.Proofs.Ytigbojdnaeaojaa
open Go.RowKit Go.Tab

set_option maxRecDepth 100000 in
set_option maxHeartbeats 4000000 in
theorem merged_pts (F : Nat) (cap : Array Value) (R : (Int × Int) → (Int × Int) → Bool) (a b : List (Int × Int)) (va vb : Value) (w : World) (ha : PtsAt w va a) (hb : PtsAt w vb b) (hla : a.length ≤ 1000000) (hlb : b.length ≤ 1000000)
    (hF : ∀ args w, Sem.run Try.prog (callFunc F args) w = .ok (.enter F args) w)
    (HA : ∀ w', Grows w w' → ∀ x y, x ∈ b → y ∈ a → Calls Try.prog F (#[pt (x).1 (x).2, pt (y).1 (y).2] ++ cap) w' (Ret (.bool (R x y)) w')) :
    Calls Try.prog 41 #[va, vb, .func (.func F) #[] cap] w (fun e w' => ∃ v, e = .returned v ∧ w'.ownsRow w.heap.size 47 2 v (mergeF R a b).length (flat (mergeF R a b)) ∧ Grows w w') := by
  obtain ⟨aa, ca, rfl, hca, hna⟩ := ha.shape
  obtain ⟨ab, cb, rfl, hcb, hnb⟩ := hb.shape
  obtain ⟨i0, hi0, hi1, hi2, hi3⟩ := info_parts infoP
  have AA := Lib.hid (fun w' (hg : Grows w w') => (ha.grows hg))
  have AB := Lib.hid (fun w' (hg : Grows w w') => (hb.grows hg))
  have HA' := Lib.hid HA
  generalize hlea : a.length = la at hla hca AA ⊢
  generalize hleb : b.length = lb at hlb hcb AB ⊢
  have Hla := Lib.hid hlea
  have Hlb := Lib.hid hleb
  clear ha hb HA hlea hleb hna hnb
  have hmc : ∀ w : World, w = w := fun _ => rfl
  clear hmc
  go_enter Try.func41, Try.ntmps41
  go_wp2
  refine wp_scope_label 0 (fun a' wr => ∃ (k m : Nat) (L : List (Int × Int)) (o u3 u4 u5 u6 u10 u11 u12 u13 u14 u15 u16 u17 u18 u19 u20 u21 u22 u23 u24 u25 u26 u27 u28 u29 u30 u31 u32 u33 u34 u35 u36 u37 u38 u39 u40 u41 u42 u43 u44 u45 u46 u47 u48 u49 u50 u51 u52 u53 u54 u55 u56 u57 u58 u59 u60 u61 : Value), a' = { tmps := #[.slice aa la ca, .slice ab lb cb, .func (.func F) #[] cap, u3, u4, u5, u6, o, .int .i64 (k : Int), .int .i64 (m : Int), u10, u11, u12, u13, u14, u15, u16, u17, u18, u19, u20, u21, u22, u23, u24, u25, u26, u27, u28, u29, u30, u31, u32, u33, u34, u35, u36, u37, u38, u39, u40, u41, u42, u43, u44, u45, u46, u47, u48, u49, u50, u51, u52, u53, u54, u55, u56, u57, u58, u59, u60, u61], defers := [] } ∧ k ≤ la ∧ m ≤ lb ∧ L.length = k + m ∧ wr.ownsRow w.heap.size 47 2 o (k + m) (flat (L)) ∧ L ++ mergeF R (a.drop k) (b.drop m) = mergeF R a b ∧ Grows w wr) (fun a' _ => la + lb + 1 - ((intOf (a'.tmps.getD 8 undef)).toNat + (intOf (a'.tmps.getD 9 undef)).toNat)) rfl ?_ ?_
  · intro hbody
    have Hb := Lib.hid hbody
    clear hbody
    go_wp2_with (at_make; refine wpList_make_own _ rfl _ _ 22 rfl w.heap.size 47 i0 (.agg #[.int .i64 0, .int .i64 0]) 2 Try.underlying22 hi0 hi1 hi2 .i64 .i64 _ (la + lb) rfl rfl (by omega) (by rw [hi3]; omega) (by unfold maxLen; omega) (Nat.le_refl _) ?_; intro w1 hown1 hgr1; have Own1 := Lib.hid hown1; have G1 := Lib.hid (Below.grown (Grows.refl w) hgr1 (Nat.le_refl _) (fun k h => by cases h)); clear hown1 hgr1)
    go_step3
    refine (‹∀ (a : Act) (w : World), Code.wp _ _ _ a w → _›) _ _ (Hb.out _ _ ⟨0, 0, [], _, _, _, _, _, _, _, _, _, _, _, _, _, _, _, _, _, _, _, _, _, _, _, _, _, _, _, _, _, _, _, _, _, _, _, _, _, _, _, _, _, _, _, _, _, _, _, _, _, _, _, _, _, _, _, _, _, rfl, Nat.zero_le _, Nat.zero_le _, rfl, Own1.out, rfl, G1.out⟩)
  · rintro a' wr ⟨k, m, L, o, u3, u4, u5, u6, u10, u11, u12, u13, u14, u15, u16, u17, u18, u19, u20, u21, u22, u23, u24, u25, u26, u27, u28, u29, u30, u31, u32, u33, u34, u35, u36, u37, u38, u39, u40, u41, u42, u43, u44, u45, u46, u47, u48, u49, u50, u51, u52, u53, u54, u55, u56, u57, u58, u59, u60, u61, rfl, hkl, hml, hL, hown, hM, hg⟩
    have HL := Lib.hid hL
    have Own := Lib.hid hown
    have G := Lib.hid hg
    have HM := Lib.hid hM
    clear hL hown hM hg
    by_cases hk : k < la
    · have hka := hk
      rw [← Hla.out] at hka
      obtain ⟨ba, oa, rfl, hba, hxa⟩ := (AA.out _ (Grows.refl w)).at_ (i := k) hka
      have CA := Lib.hid (fun w' (hg : Grows w w') => (AA.out w' hg).at_cell (i := k) hka)
      have hxm : a.getD k (0, 0) ∈ a := by rw [List.getD_eq_getElem?_getD, List.getElem?_eq_getElem hka]; exact List.getElem_mem hka
      have hda : a.drop k = a.getD k (0, 0) :: a.drop (k + 1) := by rw [List.getD_eq_getElem?_getD, List.getElem?_eq_getElem hka]; exact List.drop_eq_getElem_cons hka
      generalize a.getD k (0, 0) = x at hxa CA hxm hda
      clear hxa
      by_cases hm : m = lb
      · subst hm
        have bm : ((m : Int) == (m : Int)) = true := by rw [beq_iff_eq]
        have hdb : b.drop m = [] := by rw [List.drop_eq_nil_iff]; have := Hlb.out; omega
        have HM : Hid ((L ++ [x]) ++ mergeF R (a.drop (k + 1)) (b.drop m) = mergeF R a b) := Lib.hid (by rw [← HM.out, hda, hdb]; simp [mergeF_nil_right])
        clear hda hdb hxm
        go_wp2_with fail
        go_quiet (fail)
        rename_i nq
        obtain ⟨we, hwe⟩ : ∃ we, we = wr.drewN nq := ⟨_, rfl⟩
        rw [← hwe]
        have gd : Grows wr we := by rw [hwe]; exact ⟨rfl, rfl, rfl, Nat.le_refl _, fun _ _ => rfl⟩
        have Own := Lib.hid (ownsRow_grows Own.out gd)
        have G := Lib.hid (G.out.trans gd)
        clear hwe gd
        obtain ⟨c1, c1b⟩ := CA.out _ G.out
        go_wp2_with (at_builtin; refine append_pts rfl _ _ 22 rfl w.heap.size 47 i0 (.agg #[.int .i64 0, .int .i64 0]) 16 Try.underlying22 hi0 hi1 hi2 hi3 rfl o (k + m) _ rfl (ownsRow_grows Own.out (Grows.alloc _ _)) [x] _ rfl (pts_block (heap_new _ (.cells #[.int .i64 x.1, .int .i64 x.2] 47) _ rfl) rfl (by simp)) (by simp only [List.length_singleton]; unfold maxLen; omega) (by simp only [List.length_singleton]; omega) (by have := G.out.size; simp only [World.size_alloc]; omega) ?_; intro o' w2 hown2 hgr2; have Own2 := Lib.hid hown2; have G2 := Lib.hid (hgr2 w (G.out.al _) (Nat.le_refl _)); clear hown2 hgr2)
        go_step3
        refine ⟨rfl, ⟨k + 1, m, L ++ [x], _, _, _, _, _, _, _, _, _, _, _, _, _, _, _, _, _, _, _, _, _, _, _, _, _, _, _, _, _, _, _, _, _, _, _, _, _, _, _, _, _, _, _, _, _, _, _, _, _, _, _, _, _, _, _, _, _, by rw [Int.natCast_add]; rfl, by omega, by omega, by rw [List.length_append, HL.out, List.length_singleton]; omega, ?_, ?_, G2.out⟩, by simp [intOf]; omega⟩
        · have := Own2.out
          rw [show k + 1 + (m) = k + m + [x].length by simp only [List.length_singleton]; omega]
          simpa [flat_append] using this
        · exact HM.out
      · have hm2 : m < lb := by omega
        have hmb := hm2
        rw [← Hlb.out] at hmb
        obtain ⟨bb, ob, rfl, hbb, hyb⟩ := (AB.out _ (Grows.refl w)).at_ (i := m) hmb
        have CB := Lib.hid (fun w' (hg : Grows w w') => (AB.out w' hg).at_cell (i := m) hmb)
        have hym : b.getD m (0, 0) ∈ b := by rw [List.getD_eq_getElem?_getD, List.getElem?_eq_getElem hmb]; exact List.getElem_mem hmb
        have hdb : b.drop m = b.getD m (0, 0) :: b.drop (m + 1) := by rw [List.getD_eq_getElem?_getD, List.getElem?_eq_getElem hmb]; exact List.drop_eq_getElem_cons hmb
        generalize b.getD m (0, 0) = y at hyb CB hym hdb
        clear hyb
        have HR : Hid (∀ w', Grows w w' → Calls Try.prog F (#[pt (y).1 (y).2, pt (x).1 (x).2] ++ cap) w' (Ret (.bool (R y x)) w')) := Lib.hid fun w' hg => HA'.out w' hg y x hym hxm
        have HM : Hid (if R y x = true then (L ++ [y]) ++ mergeF R (a.drop k) (b.drop (m + 1)) = mergeF R a b else (L ++ [x]) ++ mergeF R (a.drop (k + 1)) (b.drop m) = mergeF R a b) := Lib.hid (by
          cases hr : R y x with
          | true => rw [if_pos rfl, ← HM.out, hda, hdb, mergeF_yes hr]; simp
          | false => rw [if_neg (by simp), ← HM.out, hda, hdb, mergeF_no hr]; simp)
        generalize R y x = rr at HR HM
        clear hda hdb hxm hym
        have bm : ((m : Int) == (lb : Int)) = false := by rw [beq_eq_false_iff_ne]; omega
        go_wp2_with fail
        refine wp_region_tab 23 (by kernel_rfl) (by kernel_rfl) ?_
        intro w0 hw0 hg1 hg1'
        simp only [List.take_succ_cons, List.take_zero, List.drop_succ_cons, List.drop_zero]
        · 
          refine tab_val (.int .i64 (k : Int)) (fun r w1 hr hg hA => by obtain ⟨q0, -⟩ := hA; have q0e : r (.tmp 8) = .int .i64 (k : Int) := q0; exact ⟨rfl, by simp [go_sem, q0e]⟩) ?_
          refine tab_val (.slice (some ⟨ba, oa, none⟩) la ca) (fun r w1 hr hg hA => by obtain ⟨q0, -⟩ := hA; have q0e : r (.tmp 0) = .slice (some ⟨ba, oa, none⟩) la ca := q0; exact ⟨rfl, by simp [go_sem, q0e]⟩) ?_
          refine tab_val (.int .i64 (la : Int)) (fun r w1 hr hg hA => by obtain ⟨⟨_, q0⟩, -⟩ := hA; have q0e : r (.tmp 17) = .slice (some ⟨ba, oa, none⟩) la ca := q0; exact ⟨rfl, by simp [go_sem, q0e]⟩) ?_
          refine tab_val (.bool true) (fun r w1 hr hg hA => by obtain ⟨⟨_, q0⟩, ⟨_, q1⟩, -⟩ := hA; have q0e : r (.tmp 16) = .int .i64 (k : Int) := q0; have q1e : r (.tmp 18) = .int .i64 (la : Int) := q1; exact ⟨rfl, by simp [go_sem, q0e, q1e, hk]⟩) ?_
          refine tab_val (.bool true) (fun r w1 hr hg hA => by obtain ⟨⟨_, q0⟩, -⟩ := hA; have q0e : r (.tmp 19) = .bool true := q0; exact ⟨rfl, by simp [go_sem, q0e]⟩) ?_
          refine tab_val (.int .i64 (m : Int)) (fun r w1 hr hg hA => by obtain ⟨q0, ⟨_, q1⟩, -⟩ := hA; have q0e : r (.tmp 9) = .int .i64 (m : Int) := q0; have q1e : r (.tmp 20) = .bool true := q1; exact ⟨⟨_, q1e, rfl⟩, by simp [go_sem, q0e]⟩) ?_
          refine tab_val (.slice (some ⟨bb, ob, none⟩) lb cb) (fun r w1 hr hg hA => by obtain ⟨q0, ⟨_, q1⟩, -⟩ := hA; have q0e : r (.tmp 1) = .slice (some ⟨bb, ob, none⟩) lb cb := q0; have q1e : r (.tmp 20) = .bool true := q1; exact ⟨⟨_, q1e, rfl⟩, by simp [go_sem, q0e]⟩) ?_
          refine tab_val (.int .i64 (lb : Int)) (fun r w1 hr hg hA => by obtain ⟨⟨_, q0⟩, ⟨_, q1⟩, -⟩ := hA; have q0e : r (.tmp 22) = .slice (some ⟨bb, ob, none⟩) lb cb := q0; have q1e : r (.tmp 20) = .bool true := q1; exact ⟨⟨_, q1e, rfl⟩, by simp [go_sem, q0e]⟩) ?_
          refine tab_val (.bool false) (fun r w1 hr hg hA => by obtain ⟨⟨_, q0⟩, ⟨_, q1⟩, ⟨_, q2⟩, -⟩ := hA; have q0e : r (.tmp 21) = .int .i64 (m : Int) := q0; have q1e : r (.tmp 23) = .int .i64 (lb : Int) := q1; have q2e : r (.tmp 20) = .bool true := q2; exact ⟨⟨_, q2e, rfl⟩, by simp [go_sem, q0e, q1e, bm]⟩) ?_
          refine tab_val (.bool false) (fun r w1 hr hg hA => by obtain ⟨⟨_, q0⟩, ⟨_, q1⟩, -⟩ := hA; have q0e : r (.tmp 24) = .bool false := q0; have q1e : r (.tmp 20) = .bool true := q1; exact ⟨⟨_, q1e, rfl⟩, by simp [go_sem, q0e]⟩) ?_
          refine tab_val (.func (.func F) #[] cap) (fun r w1 hr hg hA => by obtain ⟨q0, ⟨_, q1⟩, -⟩ := hA; have q0e : r (.tmp 2) = .func (.func F) #[] cap := q0; have q1e : r (.tmp 25) = .bool false := q1; exact ⟨⟨_, q1e, rfl⟩, by simp [go_sem, q0e]⟩) ?_
          refine tab_val (.slice (some ⟨bb, ob, none⟩) lb cb) (fun r w1 hr hg hA => by obtain ⟨q0, ⟨_, q1⟩, -⟩ := hA; have q0e : r (.tmp 1) = .slice (some ⟨bb, ob, none⟩) lb cb := q0; have q1e : r (.tmp 25) = .bool false := q1; exact ⟨⟨_, q1e, rfl⟩, by simp [go_sem, q0e]⟩) ?_
          refine tab_val (.int .i64 (m : Int)) (fun r w1 hr hg hA => by obtain ⟨q0, ⟨_, q1⟩, -⟩ := hA; have q0e : r (.tmp 9) = .int .i64 (m : Int) := q0; have q1e : r (.tmp 25) = .bool false := q1; exact ⟨⟨_, q1e, rfl⟩, by simp [go_sem, q0e]⟩) ?_
          refine tab_val (.pointer (some ⟨bb, ob + m * 2, none⟩)) (fun r w1 hr hg hA => by obtain ⟨⟨_, q0⟩, ⟨_, q1⟩, ⟨_, q2⟩, -⟩ := hA; have q0e : r (.tmp 27) = .slice (some ⟨bb, ob, none⟩) lb cb := q0; have q1e : r (.tmp 28) = .int .i64 (m : Int) := q1; have q2e : r (.tmp 25) = .bool false := q2; exact ⟨⟨_, q2e, rfl⟩, by simp [go_sem, q0e, q1e, hm2]⟩) ?_
          refine tab_val (pt y.1 y.2) (fun r w1 hr hg hA => by obtain ⟨⟨_, q0⟩, ⟨_, q1⟩, -⟩ := hA; have q0e : r (.tmp 29) = .pointer (some ⟨bb, ob + m * 2, none⟩) := q0; have q1e : r (.tmp 25) = .bool false := q1; have hc := And.intro (CA.out _ (G.out.trans (hg1.trans hg))) (CB.out _ (G.out.trans (hg1.trans hg))); exact ⟨⟨_, q1e, rfl⟩, by simp [go_sem, q0e, hc]⟩) ?_
          refine tab_val (.slice (some ⟨ba, oa, none⟩) la ca) (fun r w1 hr hg hA => by obtain ⟨q0, ⟨_, q1⟩, -⟩ := hA; have q0e : r (.tmp 0) = .slice (some ⟨ba, oa, none⟩) la ca := q0; have q1e : r (.tmp 25) = .bool false := q1; exact ⟨⟨_, q1e, rfl⟩, by simp [go_sem, q0e]⟩) ?_
          refine tab_val (.int .i64 (k : Int)) (fun r w1 hr hg hA => by obtain ⟨q0, ⟨_, q1⟩, -⟩ := hA; have q0e : r (.tmp 8) = .int .i64 (k : Int) := q0; have q1e : r (.tmp 25) = .bool false := q1; exact ⟨⟨_, q1e, rfl⟩, by simp [go_sem, q0e]⟩) ?_
          refine tab_val (.pointer (some ⟨ba, oa + k * 2, none⟩)) (fun r w1 hr hg hA => by obtain ⟨⟨_, q0⟩, ⟨_, q1⟩, ⟨_, q2⟩, -⟩ := hA; have q0e : r (.tmp 31) = .slice (some ⟨ba, oa, none⟩) la ca := q0; have q1e : r (.tmp 32) = .int .i64 (k : Int) := q1; have q2e : r (.tmp 25) = .bool false := q2; exact ⟨⟨_, q2e, rfl⟩, by simp [go_sem, q0e, q1e, hk]⟩) ?_
          refine tab_val (pt x.1 x.2) (fun r w1 hr hg hA => by obtain ⟨⟨_, q0⟩, ⟨_, q1⟩, -⟩ := hA; have q0e : r (.tmp 33) = .pointer (some ⟨ba, oa + k * 2, none⟩) := q0; have q1e : r (.tmp 25) = .bool false := q1; have hc := And.intro (CA.out _ (G.out.trans (hg1.trans hg))) (CB.out _ (G.out.trans (hg1.trans hg))); exact ⟨⟨_, q1e, rfl⟩, by simp [go_sem, q0e, hc]⟩) ?_
          refine tab_callP (v := .bool rr) (fun r w1 hr hg hA => by obtain ⟨⟨_, q0⟩, ⟨_, q1⟩, ⟨_, q2⟩, ⟨_, q3⟩, -⟩ := hA; have q0e : r (.tmp 26) = .func (.func F) #[] cap := q0; have q1e : r (.tmp 30) = pt y.1 y.2 := q1; have q2e : r (.tmp 34) = pt x.1 x.2 := q2; have q3e : r (.tmp 25) = .bool false := q3; exact ⟨⟨_, q3e, rfl⟩, _, by simp [go_sem, q0e, q1e, q2e, hF], HR.out _ (G.out.trans (hg1.trans hg))⟩) ?_
          refine tab_val (.bool (!rr)) (fun r w1 hr hg hA => by obtain ⟨⟨_, q0⟩, ⟨_, q1⟩, -⟩ := hA; have q0e : r (.tmp 35) = .bool rr := q0; have q1e : r (.tmp 25) = .bool false := q1; exact ⟨⟨_, q1e, rfl⟩, by simp [go_sem, q0e]⟩) ?_
          refine tab_val (.bool (!rr)) (fun r w1 hr hg hA => by obtain ⟨⟨_, q0⟩, ⟨_, q1⟩, ⟨_, q2⟩, -⟩ := hA; have q0e : r (.tmp 25) = .bool false := q0; have q1e : r (.tmp 36) = .bool (!rr) := q1; have q2e : r (.tmp 20) = .bool true := q2; exact ⟨⟨_, q2e, rfl⟩, by simp [go_sem, q0e, q1e]⟩) ?_
          refine tab_val (.bool (!rr)) (fun r w1 hr hg hA => by obtain ⟨⟨_, q0⟩, ⟨_, q1⟩, -⟩ := hA; have q0e : r (.tmp 20) = .bool true := q0; have q1e : r (.tmp 37) = .bool (!rr) := q1; exact ⟨rfl, by simp [go_sem, q0e, q1e]⟩) ?_
          refine tab_end ?_
          simp only [List.reverse_cons, List.reverse_nil, List.nil_append, List.cons_append, Out, forall_eq, forall_const, Act.put, List.setIfInBounds_toArray, List.set_cons_succ, List.set_cons_zero]
          intro wA hgA
          have G := Lib.hid (G.out.trans (hg1.trans hgA))
          have Own := Lib.hid (ownsRow_grows Own.out (hg1.trans hgA))
          clear hg1 hgA hg1' hw0
          cases rr with
          | true =>
            have HM : Hid ((L ++ [y]) ++ mergeF R (a.drop k) (b.drop (m + 1)) = mergeF R a b) := Lib.hid (by simpa using HM.out)
            obtain ⟨c1, c1b⟩ := CB.out _ G.out
            go_wp2_with (at_builtin; refine append_pts rfl _ _ 22 rfl w.heap.size 47 i0 (.agg #[.int .i64 0, .int .i64 0]) 16 Try.underlying22 hi0 hi1 hi2 hi3 rfl o (k + m) _ rfl (ownsRow_grows Own.out (Grows.alloc _ _)) [y] _ rfl (pts_block (heap_new _ (.cells #[.int .i64 y.1, .int .i64 y.2] 47) _ rfl) rfl (by simp)) (by simp only [List.length_singleton]; unfold maxLen; omega) (by simp only [List.length_singleton]; omega) (by have := G.out.size; simp only [World.size_alloc]; omega) ?_; intro o' w2 hown2 hgr2; have Own2 := Lib.hid hown2; have G2 := Lib.hid (hgr2 w (G.out.al _) (Nat.le_refl _)); clear hown2 hgr2)
            go_step3
            refine ⟨rfl, ⟨k, m + 1, L ++ [y], _, _, _, _, _, _, _, _, _, _, _, _, _, _, _, _, _, _, _, _, _, _, _, _, _, _, _, _, _, _, _, _, _, _, _, _, _, _, _, _, _, _, _, _, _, _, _, _, _, _, _, _, _, _, _, _, _, by rw [Int.natCast_add]; rfl, by omega, by omega, by rw [List.length_append, HL.out, List.length_singleton]; omega, ?_, ?_, G2.out⟩, by simp [intOf]; omega⟩
            · have := Own2.out
              rw [show k + (m + 1) = k + m + [y].length by simp only [List.length_singleton]; omega]
              simpa [flat_append] using this
            · exact HM.out
          | false =>
            have HM : Hid ((L ++ [x]) ++ mergeF R (a.drop (k + 1)) (b.drop m) = mergeF R a b) := Lib.hid (by simpa using HM.out)
            obtain ⟨c1, c1b⟩ := CA.out _ G.out
            go_wp2_with (at_builtin; refine append_pts rfl _ _ 22 rfl w.heap.size 47 i0 (.agg #[.int .i64 0, .int .i64 0]) 16 Try.underlying22 hi0 hi1 hi2 hi3 rfl o (k + m) _ rfl (ownsRow_grows Own.out (Grows.alloc _ _)) [x] _ rfl (pts_block (heap_new _ (.cells #[.int .i64 x.1, .int .i64 x.2] 47) _ rfl) rfl (by simp)) (by simp only [List.length_singleton]; unfold maxLen; omega) (by simp only [List.length_singleton]; omega) (by have := G.out.size; simp only [World.size_alloc]; omega) ?_; intro o' w2 hown2 hgr2; have Own2 := Lib.hid hown2; have G2 := Lib.hid (hgr2 w (G.out.al _) (Nat.le_refl _)); clear hown2 hgr2)
            go_step3
            refine ⟨rfl, ⟨k + 1, m, L ++ [x], _, _, _, _, _, _, _, _, _, _, _, _, _, _, _, _, _, _, _, _, _, _, _, _, _, _, _, _, _, _, _, _, _, _, _, _, _, _, _, _, _, _, _, _, _, _, _, _, _, _, _, _, _, _, _, _, _, by rw [Int.natCast_add]; rfl, by omega, by omega, by rw [List.length_append, HL.out, List.length_singleton]; omega, ?_, ?_, G2.out⟩, by simp [intOf]; omega⟩
            · have := Own2.out
              rw [show k + 1 + (m) = k + m + [x].length by simp only [List.length_singleton]; omega]
              simpa [flat_append] using this
            · exact HM.out
    · have hk2 : k = la := by omega
      subst hk2
      have hda : a.drop k = [] := by rw [List.drop_eq_nil_iff]; have := Hla.out; omega
      by_cases hm : m < lb
      · have hmb := hm
        rw [← Hlb.out] at hmb
        obtain ⟨bb, ob, rfl, hbb, hyb⟩ := (AB.out _ (Grows.refl w)).at_ (i := m) hmb
        have CB := Lib.hid (fun w' (hg : Grows w w') => (AB.out w' hg).at_cell (i := m) hmb)
        have hdb : b.drop m = b.getD m (0, 0) :: b.drop (m + 1) := by rw [List.getD_eq_getElem?_getD, List.getElem?_eq_getElem hmb]; exact List.drop_eq_getElem_cons hmb
        generalize b.getD m (0, 0) = y at hyb CB hdb
        clear hyb
        have HM : Hid ((L ++ [y]) ++ mergeF R (a.drop k) (b.drop (m + 1)) = mergeF R a b) := Lib.hid (by rw [← HM.out, hda, hdb]; simp [mergeF_nil_left])
        clear hda hdb
        go_wp2_with fail
        go_quiet (fail)
        rename_i nq
        obtain ⟨we, hwe⟩ : ∃ we, we = wr.drewN nq := ⟨_, rfl⟩
        rw [← hwe]
        have gd : Grows wr we := by rw [hwe]; exact ⟨rfl, rfl, rfl, Nat.le_refl _, fun _ _ => rfl⟩
        have Own := Lib.hid (ownsRow_grows Own.out gd)
        have G := Lib.hid (G.out.trans gd)
        clear hwe gd
        obtain ⟨c1, c1b⟩ := CB.out _ G.out
        go_wp2_with (at_builtin; refine append_pts rfl _ _ 22 rfl w.heap.size 47 i0 (.agg #[.int .i64 0, .int .i64 0]) 16 Try.underlying22 hi0 hi1 hi2 hi3 rfl o (k + m) _ rfl (ownsRow_grows Own.out (Grows.alloc _ _)) [y] _ rfl (pts_block (heap_new _ (.cells #[.int .i64 y.1, .int .i64 y.2] 47) _ rfl) rfl (by simp)) (by simp only [List.length_singleton]; unfold maxLen; omega) (by simp only [List.length_singleton]; omega) (by have := G.out.size; simp only [World.size_alloc]; omega) ?_; intro o' w2 hown2 hgr2; have Own2 := Lib.hid hown2; have G2 := Lib.hid (hgr2 w (G.out.al _) (Nat.le_refl _)); clear hown2 hgr2)
        go_step3
        refine ⟨rfl, ⟨k, m + 1, L ++ [y], _, _, _, _, _, _, _, _, _, _, _, _, _, _, _, _, _, _, _, _, _, _, _, _, _, _, _, _, _, _, _, _, _, _, _, _, _, _, _, _, _, _, _, _, _, _, _, _, _, _, _, _, _, _, _, _, _, by rw [Int.natCast_add]; rfl, by omega, by omega, by rw [List.length_append, HL.out, List.length_singleton]; omega, ?_, ?_, G2.out⟩, by simp [intOf]; omega⟩
        · have := Own2.out
          rw [show k + (m + 1) = k + m + [y].length by simp only [List.length_singleton]; omega]
          simpa [flat_append] using this
        · exact HM.out
      · have hdb : b.drop m = [] := by rw [List.drop_eq_nil_iff]; have := Hlb.out; omega
        have hm3 : m = lb := by omega
        subst hm3
        have HM : Hid (L = mergeF R a b) := Lib.hid (by rw [← HM.out, hda, hdb]; simp [mergeF_nil_left])
        clear hda hdb
        go_wp2_with fail
        go_quiet (fail)
        rename_i nq
        obtain ⟨we, hwe⟩ : ∃ we, we = wr.drewN nq := ⟨_, rfl⟩
        rw [← hwe]
        have gd : Grows wr we := by rw [hwe]; exact ⟨rfl, rfl, rfl, Nat.le_refl _, fun _ _ => rfl⟩
        have Own := Lib.hid (ownsRow_grows Own.out gd)
        have G := Lib.hid (G.out.trans gd)
        clear hwe gd
        go_wp2
        simp only [Exit.jump]
        go_ret
        refine ⟨_, rfl, ?_, G.out⟩
        rw [← HM.out, HL.out]
        exact Own.out
end Go.Proofs.Ytigbojdnaeaojaa
