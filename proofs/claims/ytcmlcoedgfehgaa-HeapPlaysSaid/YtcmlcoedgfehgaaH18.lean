/-
  Layer 5: the document's list: an entry less; entries held against it.
-/
import Derived.Test.YtcmlcoedgfehgaaH17
namespace Go.Proofs.Ytcmlcoedgfehgaa
open Go.RowKit Go.Tab Go.WideShapes

theorem erase_at (L : List Ent3) (e : Ent3) (k : Nat) (hk : k < L.length) (h1 : ∀ j, j < k → ge L j ≠ e) (h2 : ge L k = e) : e ∈ L ∧ L.erase e = L.take k ++ L.drop (k + 1) := by
  induction k generalizing L with
  | zero =>
    cases L with
    | nil => simp at hk
    | cons x L =>
      have : x = e := h2
      subst this
      simp
  | succ k ih =>
    cases L with
    | nil => simp at hk
    | cons x L =>
      have h0 : x ≠ e := h1 0 (by omega)
      obtain ⟨h3, h4⟩ := ih L (by simpa using hk) (fun j hj => h1 (j + 1) (by omega)) h2
      refine ⟨List.mem_cons_of_mem _ h3, ?_⟩
      rw [List.erase_cons_tail (by simpa using h0), h4]
      simp
theorem not_mem_of (L : List Ent3) (e : Ent3) (h1 : ∀ j, j < L.length → ge L j ≠ e) : ¬ e ∈ L := by
  intro h
  obtain ⟨i, hi, he⟩ := List.getElem_of_mem h
  exact h1 i hi (by rw [← he]; simp [List.getD_eq_getElem?_getD, hi])

def RetDrop (L : List Ent3) (e : Ent3) (u : Value) (w : World) : Ending → World → Prop := fun r w' => ∃ v', r = .returned (.tuple #[v', .bool (decide (e ∈ L))]) ∧ EntsAt w' v' (L.erase e) ∧ (∀ g, v'.ownBlock = some g → u.ownBlock = some g ∨ w.heap.size ≤ g) ∧ Grows w w'
theorem ret_two {v : Value} {a b : Bool} (h : a = b) : Ending.returned (.tuple #[v, .bool a]) = .returned (.tuple #[v, .bool b]) := by rw [h]

set_option maxRecDepth 100000 in
set_option maxHeartbeats 4000000 in
theorem rdrop_any (a : Option Addr) (n c : Nat) (L : List Ent3) (e : Ent3) (w : World) (hu : EntsAt w (.slice a n c) L) (hL : L.length = n) (hnc : n ≤ c) (hn : n ≤ 1000) :
    Calls Try.prog 7 #[.slice a n c, en e] w (RetDrop L e (.slice a n c) w) := by
  obtain ⟨i0, hi0, hz0, hz1, hz2⟩ := info_parts infoR
  obtain ⟨xa, xb, xc⟩ := e
  have HU := Lib.hid hu
  have HLn := Lib.hid hL
  have BX : Hid (∀ w', Grows (w.alloc (.cells #[.int .i64 xa, .int .i64 xb, .int .i64 xc] 35)) w' → w'.cell? ⟨w.heap.size, 0, none⟩ = some (.int .i64 xa) ∧ w'.cell? ⟨w.heap.size, 1, none⟩ = some (.int .i64 xb) ∧ w'.cell? ⟨w.heap.size, 2, none⟩ = some (.int .i64 xc)) := Lib.hid fun w1 hg1 => by
    obtain ⟨k1, k2, k3, _⟩ := cells3 (hg1.block (heap_new w (.cells #[.int .i64 xa, .int .i64 xb, .int .i64 xc] 35) _ rfl))
    exact ⟨k1, k2, k3⟩
  clear hu hL
  go_enter Try.func7, Try.ntmps7
  go_wp2
  go_loopw [6] (fun i wr => ∃ k : Nat, i = iv k ∧ k ≤ n ∧ (∀ j, j < k → ge L j ≠ (xa, xb, xc)) ∧ Grows (w.alloc (.cells #[.int .i64 xa, .int .i64 xb, .int .i64 xc] 35)) wr) (fun i _ => 1001 - (intOf i).toNat)
  case atStart => exact ⟨0, rfl, Nat.zero_le _, fun j hj => absurd hj (Nat.not_lt_zero _), Grows.refl _⟩
  case round =>
    obtain ⟨k, rfl, hk, hless, hg⟩ := hrel
    have HLS := Lib.hid hless
    have G := Lib.hid hg
    clear hless hg
    have BX := Lib.hid (fun w' (hg : Grows wr w') => BX.out w' (G.out.trans hg))
    by_cases hkn : k < n
    · obtain ⟨b, off, rfl, hb, _⟩ := HU.out.at_ (i := k) (by rw [HLn.out]; exact hkn)
      obtain ⟨y, hy⟩ : ∃ y, y = ge L k := ⟨_, rfl⟩
      have HC : Hid (∀ w', Grows wr w' → w'.cell? ⟨b, off + k * 3, none⟩ = some (.int .i64 y.1) ∧ w'.cell? ⟨b, off + k * 3 + 1, none⟩ = some (.int .i64 y.2.1) ∧ w'.cell? ⟨b, off + k * 3 + 2, none⟩ = some (.int .i64 y.2.2)) := Lib.hid fun w' hg => by
        rw [hy]
        exact (HU.out.grows (((Grows.refl w).al _).trans (G.out.trans hg))).at_cell (by rw [HLn.out]; exact hkn)
      obtain ⟨ya, yb, yc⟩ := y
      have HY := Lib.hid hy
      clear hy
      go_wp2_with fail
      refine wp_region_tab 6 (by kernel_rfl) (by kernel_rfl) ?_
      intro w0 hw0 hg1 hg1'
      simp only [List.take_succ_cons, List.take_zero, List.drop_succ_cons, List.drop_zero]
      refine tab_val (.slice (some ⟨b, off, none⟩) n c) (fun r w1 hr hg hA => by obtain ⟨q0, -⟩ := hA; have q0e : r (.tmp 0) = .slice (some ⟨b, off, none⟩) n c := q0; exact ⟨rfl, by simp [go_sem, q0e]⟩) ?_
      refine tab_val (iv k) (fun r w1 hr hg hA => by obtain ⟨q0, -⟩ := hA; have q0e : r (.tmp 6) = iv k := q0; exact ⟨rfl, by simp [go_sem, q0e]⟩) ?_
      refine tab_val (.pointer (some ⟨b, off + k * 3, none⟩)) (fun r w1 hr hg hA => by obtain ⟨⟨_, q0⟩, ⟨_, q1⟩, -⟩ := hA; have q0e : r (.tmp 13) = .slice (some ⟨b, off, none⟩) n c := q0; have q1e : r (.tmp 14) = iv k := q1; exact ⟨rfl, by simp [go_sem, q0e, q1e, hkn]⟩) ?_
      refine tab_val (en (ya, yb, yc)) (fun r w1 hr hg hA => by obtain ⟨⟨_, q0⟩, -⟩ := hA; have q0e : r (.tmp 15) = .pointer (some ⟨b, off + k * 3, none⟩) := q0; have hc := And.intro (BX.out _ (hg1.trans hg)) (HC.out _ (hg1.trans hg)); exact ⟨rfl, by simp [go_sem, q0e, hc]⟩) ?_
      refine tab_val (en (xa, xb, xc)) (fun r w1 hr hg hA => by obtain ⟨q0, -⟩ := hA; have q0e : r (.tmp 3) = .pointer (some ⟨w.heap.size, 0, none⟩) := q0; have hc := And.intro (BX.out _ (hg1.trans hg)) (HC.out _ (hg1.trans hg)); exact ⟨rfl, by simp [go_sem, q0e, hc]⟩) ?_
      refine tab_val (.bool (beqE (ya, yb, yc) (xa, xb, xc))) (fun r w1 hr hg hA => by obtain ⟨⟨_, q0⟩, ⟨_, q1⟩, -⟩ := hA; have q0e : r (.tmp 16) = en (ya, yb, yc) := q0; have q1e : r (.tmp 17) = en (xa, xb, xc) := q1; exact ⟨rfl, by simp [go_sem, q0e, q1e, eqIf]⟩) ?_
      refine tab_end ?_
      simp only [List.reverse_cons, List.reverse_nil, List.nil_append, List.cons_append, Out, BlockP, forall_eq, forall_const, Act.put, List.setIfInBounds_toArray, List.set_cons_succ, List.set_cons_zero]
      intro wA hgA
      have GA := Lib.hid (G.out.trans (hg1.trans hgA))
      clear hg1 hgA hg1' hw0 HC
      by_cases heq : ((ya, yb, yc) : Ent3) = (xa, xb, xc)
      · rw [beqE_yes heq]
        have HM0 := erase_at L (xa, xb, xc) k (by rw [HLn.out]; exact hkn) HLS.out (by rw [← HY.out]; exact heq)
        have HI := Lib.hid HM0.2
        have HM : ∀ v, Hid (Ending.returned (.tuple #[v, .bool true]) = .returned (.tuple #[v, .bool (decide ((xa, xb, xc) ∈ L))])) := fun v => Lib.hid (ret_two (decide_eq_true HM0.1).symm)
        have GA2 : Hid (Grows w wA) := Lib.hid (((Grows.refl w).al _).trans GA.out)
        have HR : Hid (∀ w', Grows wA w' → RowAt 3 w' (.slice (some ⟨b, off, none⟩) k c) k (flat3 (L.take k))) := Lib.hid fun w' hg => by
          have := (((HU.out.grows (GA2.out.trans hg))).take hk).row
          rw [List.length_take, HLn.out, Nat.min_eq_left hk] at this
          exact this
        have hkc : k ≤ c := by omega
        have hlt1 : ¬ ((k : Int) + 1 < (k : Int)) := by omega
        have hlt0 : ¬ ((k : Int) + 1 < 0) := by omega
        have hk1 : IntKind.i64.wrap ((k : Int) + 1) = (k : Int) + 1 := IntWalk.i64_in _ (by omega)
        clear HM0 heq BX HLS HY
        by_cases hck : c = k + 1
        · subst hck
          have hn2 : n = k + 1 := by omega
          subst hn2
          go_wp2_with fail
          refine wp_region_tab 9 (by kernel_rfl) (by kernel_rfl) ?_
          intro w0 hw0 hg1 hg1'
          simp only [List.take_succ_cons, List.take_zero, List.drop_succ_cons, List.drop_zero]
          refine tab_empty 35 (fun r w1 hr hg hA => ⟨rfl, by simp [go_sem]⟩) ?_
          refine tab_val (.slice (some ⟨b, off, none⟩) (k + 1) (k + 1)) (fun r w1 hr hg hA => by obtain ⟨q0, -⟩ := hA; have q0e : r (.tmp 0) = .slice (some ⟨b, off, none⟩) (k + 1) (k + 1) := q0; exact ⟨rfl, by simp [go_sem, q0e]⟩) ?_
          refine tab_val (iv k) (fun r w1 hr hg hA => by obtain ⟨q0, -⟩ := hA; have q0e : r (.tmp 6) = iv k := q0; exact ⟨rfl, by simp [go_sem, q0e]⟩) ?_
          refine tab_val (.slice (some ⟨b, off, none⟩) k (k + 1)) (fun r w1 hr hg hA => by obtain ⟨⟨_, q0⟩, ⟨_, q1⟩, -⟩ := hA; have q0e : r (.tmp 20) = .slice (some ⟨b, off, none⟩) (k + 1) (k + 1) := q0; have q1e : r (.tmp 21) = iv k := q1; exact ⟨rfl, by simp [go_sem, q0e, q1e, hk, hkc, hlt1]⟩) ?_
          refine tab_append0 _ _ 28 35 i0 _ 3 24 k (flat3 (L.take k)) rfl Try.underlying28 hi0 hz0 hz1 hz2 rfl (by decide) (by unfold maxLen; omega) (by omega) (fun r w1 hr hg hA => by obtain ⟨⟨_, q0⟩, ⟨_, q1⟩, -⟩ := hA; have q1e : r (.tmp 22) = .slice (some ⟨b, off, none⟩) k (k + 1) := q1; exact ⟨rfl, q0, by rw [q1e]; exact HR.out w1 (hg1.trans hg)⟩) ?_
          refine tab_val (.slice (some ⟨b, off, none⟩) (k + 1) (k + 1)) (fun r w1 hr hg hA => by obtain ⟨q0, -⟩ := hA; have q0e : r (.tmp 0) = .slice (some ⟨b, off, none⟩) (k + 1) (k + 1) := q0; exact ⟨rfl, by simp [go_sem, q0e]⟩) ?_
          refine tab_val (iv k) (fun r w1 hr hg hA => by obtain ⟨q0, -⟩ := hA; have q0e : r (.tmp 6) = iv k := q0; exact ⟨rfl, by simp [go_sem, q0e]⟩) ?_
          refine tab_val (iv (k + 1 : Nat)) (fun r w1 hr hg hA => by obtain ⟨⟨_, q0⟩, -⟩ := hA; have q0e : r (.tmp 25) = iv k := q0; exact ⟨rfl, by simp [go_sem, hr.const, q0e, hk1]⟩) ?_
          refine tab_val (.slice (some ⟨b, off, none⟩) 0 0) (fun r w1 hr hg hA => by obtain ⟨⟨_, q0⟩, ⟨_, q1⟩, -⟩ := hA; have q0e : r (.tmp 24) = .slice (some ⟨b, off, none⟩) (k + 1) (k + 1) := q0; have q1e : r (.tmp 26) = iv (k + 1 : Nat) := q1; exact ⟨rfl, by simp [go_sem, q0e, q1e, hlt1, hlt0]⟩) ?_
          refine tab_end ?_
          simp only [List.reverse_cons, List.reverse_nil, List.nil_append, List.cons_append, Out, BlockP, forall_eq, forall_const, Act.put, List.setIfInBounds_toArray, List.set_cons_succ, List.set_cons_zero]
          intro wB hgA
          intro v19 hv19 v23 hv23
          have GB := Lib.hid (GA2.out.trans (hg1.trans hgA))
          have GB0 := Lib.hid (GA2.out.trans hg1)
          have HO := Lib.hid hv23
          have hsz := hgA.size
          have hsw : w.heap.size ≤ w0.heap.size := GB0.out.size
          have HD : Hid (RowAt 3 wB (.slice (some ⟨b, off, none⟩) 0 0) 0 (flat3 (L.drop (k + 1)))) := Lib.hid ⟨by rw [List.drop_of_length_le (by rw [HLn.out]; exact Nat.le_refl _)]; simp [flat3], fun x hx => flat3_cell _ hx, .inl ⟨rfl, _, _, rfl, fun h => by cases h⟩⟩
          clear hg1 hgA hg1' hw0 hv19 hv23 hk1
          go_wp2_with (at_builtin; refine append_row rfl _ _ 28 rfl w0.heap.size 35 i0 _ 3 24 Try.underlying28 hi0 hz0 hz1 hz2 rfl (by decide) v23 k _ rfl HO.out 0 _ _ rfl HD.out (by unfold maxLen; omega) (by omega) hsz ?_; intro v5 w5 hown5 hgr5; have O5 := Lib.hid hown5; have G5 := Lib.hid (hgr5 w GB.out hsw); clear hown5 hgr5)
          go_ret2
          have h1 := O5.out
          rw [← flat3_append, ← HI.out, show k + 0 = (L.erase (xa, xb, xc)).length by rw [HI.out]; simp only [List.length_append, List.length_take, List.length_drop, HLn.out]; omega] at h1
          refine ⟨v5, (HM v5).out, own_ents h1 rfl (by have := List.length_erase_le (a := (xa, xb, xc)) (l := L); rw [HLn.out] at this; omega), fun g hg => .inr (Nat.le_trans hsw (own_lt h1 hg).1), G5.out⟩
        · have hck' : k + 1 ≤ c := by omega
          have hck2 : (k : Int) + 1 ≤ n := by omega
          go_wp2_with fail
          refine wp_region_tab 9 (by kernel_rfl) (by kernel_rfl) ?_
          intro w0 hw0 hg1 hg1'
          simp only [List.take_succ_cons, List.take_zero, List.drop_succ_cons, List.drop_zero]
          refine tab_empty 35 (fun r w1 hr hg hA => ⟨rfl, by simp [go_sem]⟩) ?_
          refine tab_val (.slice (some ⟨b, off, none⟩) n c) (fun r w1 hr hg hA => by obtain ⟨q0, -⟩ := hA; have q0e : r (.tmp 0) = .slice (some ⟨b, off, none⟩) n c := q0; exact ⟨rfl, by simp [go_sem, q0e]⟩) ?_
          refine tab_val (iv k) (fun r w1 hr hg hA => by obtain ⟨q0, -⟩ := hA; have q0e : r (.tmp 6) = iv k := q0; exact ⟨rfl, by simp [go_sem, q0e]⟩) ?_
          refine tab_val (.slice (some ⟨b, off, none⟩) k c) (fun r w1 hr hg hA => by obtain ⟨⟨_, q0⟩, ⟨_, q1⟩, -⟩ := hA; have q0e : r (.tmp 20) = .slice (some ⟨b, off, none⟩) n c := q0; have q1e : r (.tmp 21) = iv k := q1; exact ⟨rfl, by simp [go_sem, q0e, q1e, hk, hkc, hlt1]⟩) ?_
          refine tab_append0 _ _ 28 35 i0 _ 3 24 k (flat3 (L.take k)) rfl Try.underlying28 hi0 hz0 hz1 hz2 rfl (by decide) (by unfold maxLen; omega) (by omega) (fun r w1 hr hg hA => by obtain ⟨⟨_, q0⟩, ⟨_, q1⟩, -⟩ := hA; have q1e : r (.tmp 22) = .slice (some ⟨b, off, none⟩) k c := q1; exact ⟨rfl, q0, by rw [q1e]; exact HR.out w1 (hg1.trans hg)⟩) ?_
          refine tab_val (.slice (some ⟨b, off, none⟩) n c) (fun r w1 hr hg hA => by obtain ⟨q0, -⟩ := hA; have q0e : r (.tmp 0) = .slice (some ⟨b, off, none⟩) n c := q0; exact ⟨rfl, by simp [go_sem, q0e]⟩) ?_
          refine tab_val (iv k) (fun r w1 hr hg hA => by obtain ⟨q0, -⟩ := hA; have q0e : r (.tmp 6) = iv k := q0; exact ⟨rfl, by simp [go_sem, q0e]⟩) ?_
          refine tab_val (iv (k + 1 : Nat)) (fun r w1 hr hg hA => by obtain ⟨⟨_, q0⟩, -⟩ := hA; have q0e : r (.tmp 25) = iv k := q0; exact ⟨rfl, by simp [go_sem, hr.const, q0e, hk1]⟩) ?_
          refine tab_val (.slice (some ⟨b, off + (k + 1) * 3, none⟩) (n - (k + 1)) (c - (k + 1))) (fun r w1 hr hg hA => by obtain ⟨⟨_, q0⟩, ⟨_, q1⟩, -⟩ := hA; have q0e : r (.tmp 24) = .slice (some ⟨b, off, none⟩) n c := q0; have q1e : r (.tmp 26) = iv (k + 1 : Nat) := q1; exact ⟨rfl, by simp [go_sem, q0e, q1e, hck, hck2, hkn, hlt0]⟩) ?_
          refine tab_end ?_
          simp only [List.reverse_cons, List.reverse_nil, List.nil_append, List.cons_append, Out, BlockP, forall_eq, forall_const, Act.put, List.setIfInBounds_toArray, List.set_cons_succ, List.set_cons_zero]
          intro wB hgA
          intro v19 hv19 v23 hv23
          have GB := Lib.hid (GA2.out.trans (hg1.trans hgA))
          have GB0 := Lib.hid (GA2.out.trans hg1)
          have HO := Lib.hid hv23
          have hsz := hgA.size
          have hsw : w.heap.size ≤ w0.heap.size := GB0.out.size
          have HD : Hid (RowAt 3 wB (.slice (some ⟨b, off + (k + 1) * 3, none⟩) (n - (k + 1)) (c - (k + 1))) (n - (k + 1)) (flat3 (L.drop (k + 1)))) := Lib.hid (by
            have := ((HU.out.grows GB.out).drop (j := k + 1) hkn).row
            rw [List.length_drop, HLn.out] at this
            exact this)
          clear hg1 hgA hg1' hw0 hv19 hv23 hk1
          go_wp2_with (at_builtin; refine append_row rfl _ _ 28 rfl w0.heap.size 35 i0 _ 3 24 Try.underlying28 hi0 hz0 hz1 hz2 rfl (by decide) v23 k _ rfl HO.out (n - (k + 1)) _ _ rfl HD.out (by unfold maxLen; omega) (by omega) hsz ?_; intro v5 w5 hown5 hgr5; have O5 := Lib.hid hown5; have G5 := Lib.hid (hgr5 w GB.out hsw); clear hown5 hgr5)
          go_ret2
          have h1 := O5.out
          rw [← flat3_append, ← HI.out, show k + (n - (k + 1)) = (L.erase (xa, xb, xc)).length by rw [HI.out]; simp only [List.length_append, List.length_take, List.length_drop, HLn.out]; omega] at h1
          refine ⟨v5, (HM v5).out, own_ents h1 rfl (by have := List.length_erase_le (a := (xa, xb, xc)) (l := L); rw [HLn.out] at this; omega), fun g hg => .inr (Nat.le_trans hsw (own_lt h1 hg).1), G5.out⟩
      · rw [beqE_no heq]
        go_wp2
        refine ⟨⟨k + 1, by simp, by omega, fun j hj => ?_, GA.out⟩, by simp only [intOf]; omega⟩
        by_cases hjk : j < k
        · exact HLS.out j hjk
        · rw [show j = k by omega, ← HY.out]; exact heq
    · have hkk : k = n := by omega
      have HM := Lib.hid (not_mem_of L (xa, xb, xc) (by rw [HLn.out, ← hkk]; exact HLS.out))
      clear hkk
      go_wp2
      go_ret2
      refine ⟨_, ret_two (decide_eq_false HM.out).symm, ?_, fun g hg => .inl hg, ((Grows.refl w).al _).trans G.out⟩
      rw [List.erase_of_not_mem HM.out]
      exact HU.out.grows (((Grows.refl w).al _).trans G.out)
end Go.Proofs.Ytcmlcoedgfehgaa
