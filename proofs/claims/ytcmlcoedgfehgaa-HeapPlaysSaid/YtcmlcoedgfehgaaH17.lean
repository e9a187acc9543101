/-
  Layer 5: the document's list: an entry more, an entry less; entries held against it.
-/
import Derived.Test.YtcmlcoedgfehgaaH16
import Derived.Test.YtcmlcoedgfehgaaRA
namespace Go.Proofs.Ytcmlcoedgfehgaa
open Go.RowKit Go.Tab Go.WideShapes

theorem infoR : (Try.prog.info? 35).map (fun i => (i.zero, i.size, i.bytes)) = some (some (.agg #[.int .i64 0, .int .i64 0, .int .i64 0]), 3, 24) := by kernel_rfl
theorem EntsAt.row {w : World} {v : Value} {l : List Ent3} (h : EntsAt w v l) : RowAt 3 w v l.length (flat3 l) := by
  refine ⟨flat3_length l, fun x hx => flat3_cell l hx, ?_⟩
  obtain ⟨_, ⟨⟨a, cap, hv, hac⟩, rfl⟩ | ⟨b, off, cap, hv, hb, hcp, hc⟩⟩ := h
  · exact .inl ⟨rfl, a, cap, hv, hac⟩
  · refine .inr ⟨b, off, cap, hv, hb, fun j x hx => ?_⟩
    have hj : j < l.length * 3 := by rw [← flat3_length]; exact (List.getElem?_eq_some_iff.1 hx).1
    obtain ⟨c1, c2, c3⟩ := hc (j / 3) (by omega)
    obtain ⟨f1, f2, f3⟩ := flat3_get l (j / 3) (by omega)
    have hcases : j = j / 3 * 3 ∨ j = j / 3 * 3 + 1 ∨ j = j / 3 * 3 + 2 := by omega
    rcases hcases with h | h | h
    · rw [h, f1] at hx; rw [h, ← hx]; exact c1
    · rw [h, f2] at hx; rw [h, ← hx, ← Nat.add_assoc]; exact c2
    · rw [h, f3] at hx; rw [h, ← hx, ← Nat.add_assoc]; exact c3
/-- A new row of the document's entries. -/
def RetR (l : List Ent3) (w : World) : Ending → World → Prop := fun r w' => ∃ v', r = .returned v' ∧ w'.ownsRow w.heap.size 35 3 v' l.length (flat3 l) ∧ Grows w w'

theorem insE_at (L : List Ent3) (e : Ent3) (k : Nat) (hk : k ≤ L.length) (h1 : ∀ j, j < k → lessE e (ge L j) = false) (h2 : k = L.length ∨ lessE e (ge L k) = true) : insE L e = L.take k ++ [e] ++ L.drop k := by
  induction k generalizing L with
  | zero =>
    cases L with
    | nil => rfl
    | cons x L =>
      rcases h2 with h2 | h2
      · simp at h2
      · have : lessE e x = true := h2
        simp [insE, this]
  | succ k ih =>
    cases L with
    | nil => simp at hk
    | cons x L =>
      have h0 : lessE e x = false := h1 0 (by omega)
      have := ih L (by simpa using hk) (fun j hj => h1 (j + 1) (by omega)) (by
        rcases h2 with h2 | h2
        · exact .inl (by simpa using h2)
        · exact .inr h2)
      simp [insE, h0, this]

set_option maxRecDepth 100000 in
set_option maxHeartbeats 4000000 in
theorem rpush_any (a : Option Addr) (n c : Nat) (L : List Ent3) (e : Ent3) (w : World) (hu : EntsAt w (.slice a n c) L) (hL : L.length = n) (hnc : n ≤ c) (hn : n ≤ 1000) :
    Calls Try.prog 9 #[.slice a n c, en e] w (RetR (insE L e) w) := by
  obtain ⟨i0, hi0, hz0, hz1, hz2⟩ := info_parts infoR
  obtain ⟨xa, xb, xc⟩ := e
  have HU := Lib.hid hu
  have HLn := Lib.hid hL
  have BX : Hid (∀ w', Grows (w.alloc (.cells #[.int .i64 xa, .int .i64 xb, .int .i64 xc] 35)) w' → w'.cell? ⟨w.heap.size, 0, none⟩ = some (.int .i64 xa) ∧ w'.cell? ⟨w.heap.size, 1, none⟩ = some (.int .i64 xb) ∧ w'.cell? ⟨w.heap.size, 2, none⟩ = some (.int .i64 xc)) := Lib.hid fun w1 hg1 => by
    obtain ⟨k1, k2, k3, _⟩ := cells3 (hg1.block (heap_new w (.cells #[.int .i64 xa, .int .i64 xb, .int .i64 xc] 35) _ rfl))
    exact ⟨k1, k2, k3⟩
  clear hu hL
  go_enter Try.func9, Try.ntmps9
  go_wp2
  go_loopw [5] (fun i wr => ∃ k : Nat, i = iv k ∧ k ≤ n ∧ (∀ j, j < k → lessE (xa, xb, xc) (ge L j) = false) ∧ Grows (w.alloc (.cells #[.int .i64 xa, .int .i64 xb, .int .i64 xc] 35)) wr) (fun i _ => 1001 - (intOf i).toNat)
  case atStart => exact ⟨0, rfl, Nat.zero_le _, fun j hj => absurd hj (Nat.not_lt_zero _), Grows.refl _⟩
  case round =>
    obtain ⟨k, rfl, hk, hless, hg⟩ := hrel
    have HLS := Lib.hid hless
    have G := Lib.hid hg
    clear hless hg
    have BX := Lib.hid (fun w' (hg : Grows wr w') => BX.out w' (G.out.trans hg))
    have REST : ∀ wB, Grows wr wB → (k = n ∨ lessE (xa, xb, xc) (ge L k) = true) → True := fun _ _ _ => trivial
    clear REST
    by_cases hkn : k < n
    · obtain ⟨b, off, rfl, hb, _⟩ := HU.out.at_ (i := k) (by rw [HLn.out]; exact hkn)
      obtain ⟨y, hy⟩ : ∃ y, y = ge L k := ⟨_, rfl⟩
      have HC : Hid (∀ w', Grows wr w' → w'.cell? ⟨b, off + k * 3, none⟩ = some (.int .i64 y.1) ∧ w'.cell? ⟨b, off + k * 3 + 1, none⟩ = some (.int .i64 y.2.1) ∧ w'.cell? ⟨b, off + k * 3 + 2, none⟩ = some (.int .i64 y.2.2)) := Lib.hid fun w' hg => by
        rw [hy]
        exact (HU.out.grows (((Grows.refl w).al _).trans (G.out.trans hg))).at_cell (by rw [HLn.out]; exact hkn)
      obtain ⟨ya, yb, yc⟩ := y
      obtain ⟨lb, hlb⟩ : ∃ lb, lb = lessE (xa, xb, xc) (ya, yb, yc) := ⟨_, rfl⟩
      have HL : Hid (∀ w1, Calls Try.prog 16 #[en (xa, xb, xc), en (ya, yb, yc)] w1 (Ret (.bool lb) w1)) := Lib.hid fun w1 => by
        rw [hlb]; exact rless_any _ _ w1
      have HB := Lib.hid hlb
      have HY := Lib.hid hy
      clear hlb hy
      go_wp2_with fail
      refine wp_region_tab 13 (by kernel_rfl) (by kernel_rfl) ?_
      intro w0 hw0 hg1 hg1'
      simp only [List.take_succ_cons, List.take_zero, List.drop_succ_cons, List.drop_zero]
      refine tab_val (iv k) (fun r w1 hr hg hA => by obtain ⟨q0, -⟩ := hA; have q0e : r (.tmp 5) = iv k := q0; exact ⟨rfl, by simp [go_sem, q0e]⟩) ?_
      refine tab_val (.slice (some ⟨b, off, none⟩) n c) (fun r w1 hr hg hA => by obtain ⟨q0, -⟩ := hA; have q0e : r (.tmp 0) = .slice (some ⟨b, off, none⟩) n c := q0; exact ⟨rfl, by simp [go_sem, q0e]⟩) ?_
      refine tab_val (iv n) (fun r w1 hr hg hA => by obtain ⟨⟨_, q0⟩, -⟩ := hA; have q0e : r (.tmp 8) = .slice (some ⟨b, off, none⟩) n c := q0; exact ⟨rfl, by simp [go_sem, q0e]⟩) ?_
      refine tab_val (.bool true) (fun r w1 hr hg hA => by obtain ⟨⟨_, q0⟩, ⟨_, q1⟩, -⟩ := hA; have q0e : r (.tmp 7) = iv k := q0; have q1e : r (.tmp 9) = iv n := q1; exact ⟨rfl, by simp [go_sem, q0e, q1e, hkn]⟩) ?_
      refine tab_val (.bool true) (fun r w1 hr hg hA => by obtain ⟨⟨_, q0⟩, -⟩ := hA; have q0e : r (.tmp 10) = .bool true := q0; exact ⟨rfl, by simp [go_sem, q0e]⟩) ?_
      refine tab_val (en (xa, xb, xc)) (fun r w1 hr hg hA => by obtain ⟨q0, ⟨_, q1⟩, -⟩ := hA; have q0e : r (.tmp 3) = .pointer (some ⟨w.heap.size, 0, none⟩) := q0; have q1e : r (.tmp 11) = .bool true := q1; have hc := And.intro (BX.out _ (hg1.trans hg)) (HC.out _ (hg1.trans hg)); exact ⟨⟨_, q1e, rfl⟩, by simp [go_sem, q0e, hc]⟩) ?_
      refine tab_val (.slice (some ⟨b, off, none⟩) n c) (fun r w1 hr hg hA => by obtain ⟨q0, ⟨_, q1⟩, -⟩ := hA; have q0e : r (.tmp 0) = .slice (some ⟨b, off, none⟩) n c := q0; have q1e : r (.tmp 11) = .bool true := q1; exact ⟨⟨_, q1e, rfl⟩, by simp [go_sem, q0e]⟩) ?_
      refine tab_val (iv k) (fun r w1 hr hg hA => by obtain ⟨q0, ⟨_, q1⟩, -⟩ := hA; have q0e : r (.tmp 5) = iv k := q0; have q1e : r (.tmp 11) = .bool true := q1; exact ⟨⟨_, q1e, rfl⟩, by simp [go_sem, q0e]⟩) ?_
      refine tab_val (.pointer (some ⟨b, off + k * 3, none⟩)) (fun r w1 hr hg hA => by obtain ⟨⟨_, q0⟩, ⟨_, q1⟩, ⟨_, q2⟩, -⟩ := hA; have q0e : r (.tmp 13) = .slice (some ⟨b, off, none⟩) n c := q0; have q1e : r (.tmp 14) = iv k := q1; have q2e : r (.tmp 11) = .bool true := q2; exact ⟨⟨_, q2e, rfl⟩, by simp [go_sem, q0e, q1e, hkn]⟩) ?_
      refine tab_val (en (ya, yb, yc)) (fun r w1 hr hg hA => by obtain ⟨⟨_, q0⟩, ⟨_, q1⟩, -⟩ := hA; have q0e : r (.tmp 15) = .pointer (some ⟨b, off + k * 3, none⟩) := q0; have q1e : r (.tmp 11) = .bool true := q1; have hc := And.intro (BX.out _ (hg1.trans hg)) (HC.out _ (hg1.trans hg)); exact ⟨⟨_, q1e, rfl⟩, by simp [go_sem, q0e, hc]⟩) ?_
      refine tab_call (v := .bool lb) (fun w1 hg => HL.out w1) (fun r w1 hr hg hA => by obtain ⟨⟨_, q0⟩, ⟨_, q1⟩, ⟨_, q2⟩, -⟩ := hA; have q0e : r (.tmp 12) = en (xa, xb, xc) := q0; have q1e : r (.tmp 16) = en (ya, yb, yc) := q1; have q2e : r (.tmp 11) = .bool true := q2; exact ⟨⟨_, q2e, rfl⟩, by simp [go_sem, hr.func, q0e, q1e]⟩) ?_
      refine tab_val (.bool (!lb)) (fun r w1 hr hg hA => by obtain ⟨⟨_, q0⟩, ⟨_, q1⟩, -⟩ := hA; have q0e : r (.tmp 17) = .bool lb := q0; have q1e : r (.tmp 11) = .bool true := q1; exact ⟨⟨_, q1e, rfl⟩, by simp [go_sem, q0e]⟩) ?_
      refine tab_val (.bool (!lb)) (fun r w1 hr hg hA => by obtain ⟨⟨_, q0⟩, ⟨_, q1⟩, -⟩ := hA; have q0e : r (.tmp 11) = .bool true := q0; have q1e : r (.tmp 18) = .bool (!lb) := q1; exact ⟨rfl, by simp [go_sem, q0e, q1e]⟩) ?_
      refine tab_end ?_
      simp only [List.reverse_cons, List.reverse_nil, List.nil_append, List.cons_append, Out, BlockP, forall_eq, forall_const, Act.put, List.setIfInBounds_toArray, List.set_cons_succ, List.set_cons_zero]
      intro wA hgA
      have GA := Lib.hid (G.out.trans (hg1.trans hgA))
      have BX2 := Lib.hid (fun w' (hg : Grows wA w') => BX.out w' ((hg1.trans hgA).trans hg))
      clear hg1 hgA hg1' hw0 HL HC
      cases lb with
      | false =>
        go_wp2
        refine ⟨⟨k + 1, by simp, by omega, fun j hj => ?_, GA.out⟩, by simp only [intOf]; omega⟩
        by_cases hjk : j < k
        · exact HLS.out j hjk
        · rw [show j = k by omega, ← HY.out]; exact HB.out.symm
      | true =>
        have HI := Lib.hid (insE_at L (xa, xb, xc) k (by rw [HLn.out]; exact hk) HLS.out (.inr (by rw [← HY.out]; exact HB.out.symm)))
        have hkc : k ≤ c := by omega
        have hkc' : ¬ c = k := by omega
        clear BX HLS
        have GA2 : Hid (Grows w wA) := Lib.hid (((Grows.refl w).al _).trans GA.out)
        have HR : Hid (∀ w', Grows wA w' → RowAt 3 w' (.slice (some ⟨b, off, none⟩) k c) k (flat3 (L.take k))) := Lib.hid fun w' hg => by
          have := (((HU.out.grows (GA2.out.trans hg))).take hk).row
          rw [List.length_take, HLn.out, Nat.min_eq_left hk] at this
          exact this
        go_wp2_with fail
        refine wp_region_tab 7 (by kernel_rfl) (by kernel_rfl) ?_
        intro w0 hw0 hg1 hg1'
        simp only [List.take_succ_cons, List.take_zero, List.drop_succ_cons, List.drop_zero]
        refine tab_empty 35 (fun r w1 hr hg hA => ⟨rfl, by simp [go_sem]⟩) ?_
        refine tab_val (.slice (some ⟨b, off, none⟩) n c) (fun r w1 hr hg hA => by obtain ⟨q0, -⟩ := hA; have q0e : r (.tmp 0) = .slice (some ⟨b, off, none⟩) n c := q0; exact ⟨rfl, by simp [go_sem, q0e]⟩) ?_
        refine tab_val (iv k) (fun r w1 hr hg hA => by obtain ⟨q0, -⟩ := hA; have q0e : r (.tmp 5) = iv k := q0; exact ⟨rfl, by simp [go_sem, q0e]⟩) ?_
        refine tab_val (.slice (some ⟨b, off, none⟩) k c) (fun r w1 hr hg hA => by obtain ⟨⟨_, q0⟩, ⟨_, q1⟩, -⟩ := hA; have q0e : r (.tmp 23) = .slice (some ⟨b, off, none⟩) n c := q0; have q1e : r (.tmp 24) = iv k := q1; exact ⟨rfl, by simp [go_sem, q0e, q1e, hk, hkc]⟩) ?_
        refine tab_append0 _ _ 28 35 i0 _ 3 24 k (flat3 (L.take k)) rfl Try.underlying28 hi0 hz0 hz1 hz2 rfl (by decide) (by unfold maxLen; omega) (by omega) (fun r w1 hr hg hA => by obtain ⟨⟨_, q0⟩, ⟨_, q1⟩, -⟩ := hA; have q1e : r (.tmp 25) = .slice (some ⟨b, off, none⟩) k c := q1; exact ⟨rfl, q0, by rw [q1e]; exact HR.out w1 (hg1.trans hg)⟩) ?_
        refine tab_val (en (xa, xb, xc)) (fun r w1 hr hg hA => by obtain ⟨q0, -⟩ := hA; have q0e : r (.tmp 3) = .pointer (some ⟨w.heap.size, 0, none⟩) := q0; have hc := BX2.out _ (hg1.trans hg); exact ⟨rfl, by simp [go_sem, q0e, hc]⟩) ?_
        refine tab_block (.cells #[.int .i64 xa, .int .i64 xb, .int .i64 xc] 35 (0, 0)) (fun b => .slice (some ⟨b, 0, none⟩) 1 1) (fun r w1 hr hg hA => by obtain ⟨⟨_, q0⟩, -⟩ := hA; have q0e : r (.tmp 27) = en (xa, xb, xc) := q0; exact ⟨rfl, by simp [go_sem, q0e]⟩) ?_
        refine tab_end ?_
        simp only [List.reverse_cons, List.reverse_nil, List.nil_append, List.cons_append, Out, BlockP, forall_eq, forall_const, Act.put, List.setIfInBounds_toArray, List.set_cons_succ, List.set_cons_zero]
        intro wB hgA
        intro v22 hv22 v26 hv26 v28 hv28
        obtain ⟨b28, rfl, hb28⟩ := hv28
        have GB := Lib.hid (GA2.out.trans (hg1.trans hgA))
        have GB0 := Lib.hid (GA2.out.trans hg1)
        have HO := Lib.hid hv26
        have HE := Lib.hid ((ents_block (l := [(xa, xb, xc)]) hb28 rfl (by simp)).row)
        have hsz := hgA.size
        have hsw : w.heap.size ≤ w0.heap.size := GB0.out.size
        have hgB := hgA
        clear hg1 hgA hg1' hw0 hv22 hv26 hb28 BX2
        have HD : Hid (∀ w', Grows w0 w' → RowAt 3 w' (.slice (some ⟨b, off + k * 3, none⟩) (n - k) (c - k)) (n - k) (flat3 (L.drop k))) := Lib.hid fun w' hg => by
          have := ((HU.out.grows (GB0.out.trans hg)).drop hk).row
          rw [List.length_drop, HLn.out] at this
          exact this
        go_wp2_with (at_builtin; first | (refine append_row rfl _ _ 28 rfl w0.heap.size 35 i0 _ 3 24 Try.underlying28 hi0 hz0 hz1 hz2 rfl (by decide) v26 k _ rfl HO.out 1 _ _ rfl HE.out (by unfold maxLen; omega) (by omega) hsz ?_; intro v5 w5 hown5 hgr5; have O5 := Lib.hid hown5; have G5 := Lib.hid (hgr5 w GB.out hsw); have G5B := Lib.hid (hgr5 w0 hgB (Nat.le_refl _)); clear hown5 hgr5) | (refine append_row rfl _ _ 28 rfl w0.heap.size 35 i0 _ 3 24 Try.underlying28 hi0 hz0 hz1 hz2 rfl (by decide) v5 (k + 1) _ rfl O5.out (n - k) _ _ rfl (HD.out _ G5B.out) (by unfold maxLen; omega) (by omega) G5B.out.size ?_; intro v6 w6 hown6 hgr6; have O6 := Lib.hid hown6; have G6 := Lib.hid (hgr6 w G5.out hsw); clear hown6 hgr6))
        go_ret
        refine ⟨_, rfl, ?_, G6.out⟩
        have h1 := O6.out
        have hl : (insE L (xa, xb, xc)).length = k + 1 + (n - k) := by
          rw [HI.out]
          simp only [List.length_append, List.length_take, List.length_drop, List.length_singleton, HLn.out]
          omega
        rw [hl, HI.out, flat3_append, flat3_append]
        exact own_base h1 hsw
    · have hkk : k = n := by omega
      have HI := Lib.hid (insE_at L (xa, xb, xc) k (by rw [HLn.out]; exact hk) HLS.out (.inl (by rw [HLn.out]; exact hkk)))
      obtain rfl : n = k := hkk.symm
      clear hkk hk
      have hk : n ≤ n := Nat.le_refl _
      have hkc : n ≤ c := hnc
      cases a with
      | none =>
        obtain rfl : n = c := by
          have h0 : c = 0 := by obtain ⟨a', c', h1, _, h3⟩ := HU.out.shape; cases h1; exact h3 rfl
          omega
        go_wp2_with fail
        refine wp_region_tab 13 (by kernel_rfl) (by kernel_rfl) ?_
        intro w0 hw0 hg1 hg1'
        simp only [List.take_succ_cons, List.take_zero, List.drop_succ_cons, List.drop_zero]
        refine tab_val (iv n) (fun r w1 hr hg hA => by obtain ⟨q0, -⟩ := hA; have q0e : r (.tmp 5) = iv n := q0; exact ⟨rfl, by simp [go_sem, q0e]⟩) ?_
        refine tab_val (.slice none n n) (fun r w1 hr hg hA => by obtain ⟨q0, -⟩ := hA; have q0e : r (.tmp 0) = .slice none n n := q0; exact ⟨rfl, by simp [go_sem, q0e]⟩) ?_
        refine tab_val (iv n) (fun r w1 hr hg hA => by obtain ⟨⟨_, q0⟩, -⟩ := hA; have q0e : r (.tmp 8) = .slice none n n := q0; exact ⟨rfl, by simp [go_sem, q0e]⟩) ?_
        refine tab_val (.bool false) (fun r w1 hr hg hA => by obtain ⟨⟨_, q0⟩, ⟨_, q1⟩, -⟩ := hA; have q0e : r (.tmp 7) = iv n := q0; have q1e : r (.tmp 9) = iv n := q1; exact ⟨rfl, by simp [go_sem, q0e, q1e, hkn]⟩) ?_
        refine tab_val (.bool false) (fun r w1 hr hg hA => by obtain ⟨⟨_, q0⟩, -⟩ := hA; have q0e : r (.tmp 10) = .bool false := q0; exact ⟨rfl, by simp [go_sem, q0e]⟩) ?_
        refine tab_skip (fun r w1 hr hg hA => by obtain ⟨q0, ⟨_, q1⟩, -⟩ := hA; have q0e : r (.tmp 3) = .pointer (some ⟨w.heap.size, 0, none⟩) := q0; have q1e : r (.tmp 11) = .bool false := q1; exact ⟨_, q1e, rfl⟩) ?_
        refine tab_skip (fun r w1 hr hg hA => by obtain ⟨q0, ⟨_, q1⟩, -⟩ := hA; have q0e : r (.tmp 0) = .slice none n n := q0; have q1e : r (.tmp 11) = .bool false := q1; exact ⟨_, q1e, rfl⟩) ?_
        refine tab_skip (fun r w1 hr hg hA => by obtain ⟨q0, ⟨_, q1⟩, -⟩ := hA; have q0e : r (.tmp 5) = iv n := q0; have q1e : r (.tmp 11) = .bool false := q1; exact ⟨_, q1e, rfl⟩) ?_
        refine tab_skip (fun r w1 hr hg hA => by obtain ⟨⟨_, q0⟩, ⟨_, q1⟩, ⟨_, q2⟩, -⟩ := hA; have q0e : r (.tmp 13) = undef := q0; have q1e : r (.tmp 14) = undef := q1; have q2e : r (.tmp 11) = .bool false := q2; exact ⟨_, q2e, rfl⟩) ?_
        refine tab_skip (fun r w1 hr hg hA => by obtain ⟨⟨_, q0⟩, ⟨_, q1⟩, -⟩ := hA; have q0e : r (.tmp 15) = undef := q0; have q1e : r (.tmp 11) = .bool false := q1; exact ⟨_, q1e, rfl⟩) ?_
        refine tab_skip (fun r w1 hr hg hA => by obtain ⟨⟨_, q0⟩, ⟨_, q1⟩, ⟨_, q2⟩, -⟩ := hA; have q0e : r (.tmp 12) = undef := q0; have q1e : r (.tmp 16) = undef := q1; have q2e : r (.tmp 11) = .bool false := q2; exact ⟨_, q2e, rfl⟩) ?_
        refine tab_skip (fun r w1 hr hg hA => by obtain ⟨⟨_, q0⟩, ⟨_, q1⟩, -⟩ := hA; have q0e : r (.tmp 17) = undef := q0; have q1e : r (.tmp 11) = .bool false := q1; exact ⟨_, q1e, rfl⟩) ?_
        refine tab_val (.bool false) (fun r w1 hr hg hA => by obtain ⟨⟨_, q0⟩, ⟨_, q1⟩, -⟩ := hA; have q0e : r (.tmp 11) = .bool false := q0; have q1e : r (.tmp 18) = undef := q1; exact ⟨rfl, by simp [go_sem, hr.const, q0e]⟩) ?_
        refine tab_end ?_
        simp only [List.reverse_cons, List.reverse_nil, List.nil_append, List.cons_append, Out, BlockP, forall_eq, forall_const, Act.put, List.setIfInBounds_toArray, List.set_cons_succ, List.set_cons_zero]
        intro wA hgA
        have GA := Lib.hid (G.out.trans (hg1.trans hgA))
        have BX2 := Lib.hid (fun w' (hg : Grows wA w') => BX.out w' ((hg1.trans hgA).trans hg))
        clear hg1 hgA hg1' hw0
        clear BX HLS
        have GA2 : Hid (Grows w wA) := Lib.hid (((Grows.refl w).al _).trans GA.out)
        have HR : Hid (∀ w', Grows wA w' → RowAt 3 w' (.slice none n n) n (flat3 (L.take n))) := Lib.hid fun w' hg => by
          have := (((HU.out.grows (GA2.out.trans hg))).take hk).row
          rw [List.length_take, HLn.out, Nat.min_eq_left hk] at this
          exact this
        go_wp2_with fail
        refine wp_region_tab 7 (by kernel_rfl) (by kernel_rfl) ?_
        intro w0 hw0 hg1 hg1'
        simp only [List.take_succ_cons, List.take_zero, List.drop_succ_cons, List.drop_zero]
        refine tab_empty 35 (fun r w1 hr hg hA => ⟨rfl, by simp [go_sem]⟩) ?_
        refine tab_val (.slice none n n) (fun r w1 hr hg hA => by obtain ⟨q0, -⟩ := hA; have q0e : r (.tmp 0) = .slice none n n := q0; exact ⟨rfl, by simp [go_sem, q0e]⟩) ?_
        refine tab_val (iv n) (fun r w1 hr hg hA => by obtain ⟨q0, -⟩ := hA; have q0e : r (.tmp 5) = iv n := q0; exact ⟨rfl, by simp [go_sem, q0e]⟩) ?_
        refine tab_val (.slice none n n) (fun r w1 hr hg hA => by obtain ⟨⟨_, q0⟩, ⟨_, q1⟩, -⟩ := hA; have q0e : r (.tmp 23) = .slice none n n := q0; have q1e : r (.tmp 24) = iv n := q1; exact ⟨rfl, by simp [go_sem, q0e, q1e, hk, hkc]⟩) ?_
        refine tab_append0 _ _ 28 35 i0 _ 3 24 n (flat3 (L.take n)) rfl Try.underlying28 hi0 hz0 hz1 hz2 rfl (by decide) (by unfold maxLen; omega) (by omega) (fun r w1 hr hg hA => by obtain ⟨⟨_, q0⟩, ⟨_, q1⟩, -⟩ := hA; have q1e : r (.tmp 25) = .slice none n n := q1; exact ⟨rfl, q0, by rw [q1e]; exact HR.out w1 (hg1.trans hg)⟩) ?_
        refine tab_val (en (xa, xb, xc)) (fun r w1 hr hg hA => by obtain ⟨q0, -⟩ := hA; have q0e : r (.tmp 3) = .pointer (some ⟨w.heap.size, 0, none⟩) := q0; have hc := BX2.out _ (hg1.trans hg); exact ⟨rfl, by simp [go_sem, q0e, hc]⟩) ?_
        refine tab_block (.cells #[.int .i64 xa, .int .i64 xb, .int .i64 xc] 35 (0, 0)) (fun b => .slice (some ⟨b, 0, none⟩) 1 1) (fun r w1 hr hg hA => by obtain ⟨⟨_, q0⟩, -⟩ := hA; have q0e : r (.tmp 27) = en (xa, xb, xc) := q0; exact ⟨rfl, by simp [go_sem, q0e]⟩) ?_
        refine tab_end ?_
        simp only [List.reverse_cons, List.reverse_nil, List.nil_append, List.cons_append, Out, BlockP, forall_eq, forall_const, Act.put, List.setIfInBounds_toArray, List.set_cons_succ, List.set_cons_zero]
        intro wB hgA
        intro v22 hv22 v26 hv26 v28 hv28
        obtain ⟨b28, rfl, hb28⟩ := hv28
        have GB := Lib.hid (GA2.out.trans (hg1.trans hgA))
        have GB0 := Lib.hid (GA2.out.trans hg1)
        have HO := Lib.hid hv26
        have HE := Lib.hid ((ents_block (l := [(xa, xb, xc)]) hb28 rfl (by simp)).row)
        have hsz := hgA.size
        have hsw : w.heap.size ≤ w0.heap.size := GB0.out.size
        have hgB := hgA
        clear hg1 hgA hg1' hw0 hv22 hv26 hb28 BX2
        have HD : Hid (∀ w', Grows w0 w' → RowAt 3 w' (.slice none 0 0) (0) (flat3 (L.drop n))) := Lib.hid fun w' hg => ⟨by rw [List.drop_of_length_le (by rw [HLn.out]; omega)]; simp [flat3], fun x hx => flat3_cell _ hx, .inl ⟨by omega, _, _, by rw [show 0 = 0 by omega], fun _ => rfl⟩⟩
        go_wp2_with (at_builtin; first | (refine append_row rfl _ _ 28 rfl w0.heap.size 35 i0 _ 3 24 Try.underlying28 hi0 hz0 hz1 hz2 rfl (by decide) v26 n _ rfl HO.out 1 _ _ rfl HE.out (by unfold maxLen; omega) (by omega) hsz ?_; intro v5 w5 hown5 hgr5; have O5 := Lib.hid hown5; have G5 := Lib.hid (hgr5 w GB.out hsw); have G5B := Lib.hid (hgr5 w0 hgB (Nat.le_refl _)); clear hown5 hgr5) | (refine append_row rfl _ _ 28 rfl w0.heap.size 35 i0 _ 3 24 Try.underlying28 hi0 hz0 hz1 hz2 rfl (by decide) v5 (n + 1) _ rfl O5.out (0) _ _ rfl (HD.out _ G5B.out) (by unfold maxLen; omega) (by omega) G5B.out.size ?_; intro v6 w6 hown6 hgr6; have O6 := Lib.hid hown6; have G6 := Lib.hid (hgr6 w G5.out hsw); clear hown6 hgr6))
        go_ret
        refine ⟨_, rfl, ?_, G6.out⟩
        have h1 := O6.out
        have hl : (insE L (xa, xb, xc)).length = n + 1 + 0 := by
          rw [HI.out]
          simp only [List.length_append, List.length_take, List.length_drop, List.length_singleton, HLn.out]
          omega
        rw [hl, HI.out, flat3_append, flat3_append]
        exact own_base h1 hsw
      | some ad =>
        by_cases hck : n = c
        · subst hck
          go_wp2_with fail
          refine wp_region_tab 13 (by kernel_rfl) (by kernel_rfl) ?_
          intro w0 hw0 hg1 hg1'
          simp only [List.take_succ_cons, List.take_zero, List.drop_succ_cons, List.drop_zero]
          refine tab_val (iv n) (fun r w1 hr hg hA => by obtain ⟨q0, -⟩ := hA; have q0e : r (.tmp 5) = iv n := q0; exact ⟨rfl, by simp [go_sem, q0e]⟩) ?_
          refine tab_val (.slice (some ad) n n) (fun r w1 hr hg hA => by obtain ⟨q0, -⟩ := hA; have q0e : r (.tmp 0) = .slice (some ad) n n := q0; exact ⟨rfl, by simp [go_sem, q0e]⟩) ?_
          refine tab_val (iv n) (fun r w1 hr hg hA => by obtain ⟨⟨_, q0⟩, -⟩ := hA; have q0e : r (.tmp 8) = .slice (some ad) n n := q0; exact ⟨rfl, by simp [go_sem, q0e]⟩) ?_
          refine tab_val (.bool false) (fun r w1 hr hg hA => by obtain ⟨⟨_, q0⟩, ⟨_, q1⟩, -⟩ := hA; have q0e : r (.tmp 7) = iv n := q0; have q1e : r (.tmp 9) = iv n := q1; exact ⟨rfl, by simp [go_sem, q0e, q1e, hkn]⟩) ?_
          refine tab_val (.bool false) (fun r w1 hr hg hA => by obtain ⟨⟨_, q0⟩, -⟩ := hA; have q0e : r (.tmp 10) = .bool false := q0; exact ⟨rfl, by simp [go_sem, q0e]⟩) ?_
          refine tab_skip (fun r w1 hr hg hA => by obtain ⟨q0, ⟨_, q1⟩, -⟩ := hA; have q0e : r (.tmp 3) = .pointer (some ⟨w.heap.size, 0, none⟩) := q0; have q1e : r (.tmp 11) = .bool false := q1; exact ⟨_, q1e, rfl⟩) ?_
          refine tab_skip (fun r w1 hr hg hA => by obtain ⟨q0, ⟨_, q1⟩, -⟩ := hA; have q0e : r (.tmp 0) = .slice (some ad) n n := q0; have q1e : r (.tmp 11) = .bool false := q1; exact ⟨_, q1e, rfl⟩) ?_
          refine tab_skip (fun r w1 hr hg hA => by obtain ⟨q0, ⟨_, q1⟩, -⟩ := hA; have q0e : r (.tmp 5) = iv n := q0; have q1e : r (.tmp 11) = .bool false := q1; exact ⟨_, q1e, rfl⟩) ?_
          refine tab_skip (fun r w1 hr hg hA => by obtain ⟨⟨_, q0⟩, ⟨_, q1⟩, ⟨_, q2⟩, -⟩ := hA; have q0e : r (.tmp 13) = undef := q0; have q1e : r (.tmp 14) = undef := q1; have q2e : r (.tmp 11) = .bool false := q2; exact ⟨_, q2e, rfl⟩) ?_
          refine tab_skip (fun r w1 hr hg hA => by obtain ⟨⟨_, q0⟩, ⟨_, q1⟩, -⟩ := hA; have q0e : r (.tmp 15) = undef := q0; have q1e : r (.tmp 11) = .bool false := q1; exact ⟨_, q1e, rfl⟩) ?_
          refine tab_skip (fun r w1 hr hg hA => by obtain ⟨⟨_, q0⟩, ⟨_, q1⟩, ⟨_, q2⟩, -⟩ := hA; have q0e : r (.tmp 12) = undef := q0; have q1e : r (.tmp 16) = undef := q1; have q2e : r (.tmp 11) = .bool false := q2; exact ⟨_, q2e, rfl⟩) ?_
          refine tab_skip (fun r w1 hr hg hA => by obtain ⟨⟨_, q0⟩, ⟨_, q1⟩, -⟩ := hA; have q0e : r (.tmp 17) = undef := q0; have q1e : r (.tmp 11) = .bool false := q1; exact ⟨_, q1e, rfl⟩) ?_
          refine tab_val (.bool false) (fun r w1 hr hg hA => by obtain ⟨⟨_, q0⟩, ⟨_, q1⟩, -⟩ := hA; have q0e : r (.tmp 11) = .bool false := q0; have q1e : r (.tmp 18) = undef := q1; exact ⟨rfl, by simp [go_sem, hr.const, q0e]⟩) ?_
          refine tab_end ?_
          simp only [List.reverse_cons, List.reverse_nil, List.nil_append, List.cons_append, Out, BlockP, forall_eq, forall_const, Act.put, List.setIfInBounds_toArray, List.set_cons_succ, List.set_cons_zero]
          intro wA hgA
          have GA := Lib.hid (G.out.trans (hg1.trans hgA))
          have BX2 := Lib.hid (fun w' (hg : Grows wA w') => BX.out w' ((hg1.trans hgA).trans hg))
          clear hg1 hgA hg1' hw0
          clear BX HLS
          have GA2 : Hid (Grows w wA) := Lib.hid (((Grows.refl w).al _).trans GA.out)
          have HR : Hid (∀ w', Grows wA w' → RowAt 3 w' (.slice (some ad) n n) n (flat3 (L.take n))) := Lib.hid fun w' hg => by
            have := (((HU.out.grows (GA2.out.trans hg))).take hk).row
            rw [List.length_take, HLn.out, Nat.min_eq_left hk] at this
            exact this
          go_wp2_with fail
          refine wp_region_tab 7 (by kernel_rfl) (by kernel_rfl) ?_
          intro w0 hw0 hg1 hg1'
          simp only [List.take_succ_cons, List.take_zero, List.drop_succ_cons, List.drop_zero]
          refine tab_empty 35 (fun r w1 hr hg hA => ⟨rfl, by simp [go_sem]⟩) ?_
          refine tab_val (.slice (some ad) n n) (fun r w1 hr hg hA => by obtain ⟨q0, -⟩ := hA; have q0e : r (.tmp 0) = .slice (some ad) n n := q0; exact ⟨rfl, by simp [go_sem, q0e]⟩) ?_
          refine tab_val (iv n) (fun r w1 hr hg hA => by obtain ⟨q0, -⟩ := hA; have q0e : r (.tmp 5) = iv n := q0; exact ⟨rfl, by simp [go_sem, q0e]⟩) ?_
          refine tab_val (.slice (some ad) n n) (fun r w1 hr hg hA => by obtain ⟨⟨_, q0⟩, ⟨_, q1⟩, -⟩ := hA; have q0e : r (.tmp 23) = .slice (some ad) n n := q0; have q1e : r (.tmp 24) = iv n := q1; exact ⟨rfl, by simp [go_sem, q0e, q1e, hk, hkc]⟩) ?_
          refine tab_append0 _ _ 28 35 i0 _ 3 24 n (flat3 (L.take n)) rfl Try.underlying28 hi0 hz0 hz1 hz2 rfl (by decide) (by unfold maxLen; omega) (by omega) (fun r w1 hr hg hA => by obtain ⟨⟨_, q0⟩, ⟨_, q1⟩, -⟩ := hA; have q1e : r (.tmp 25) = .slice (some ad) n n := q1; exact ⟨rfl, q0, by rw [q1e]; exact HR.out w1 (hg1.trans hg)⟩) ?_
          refine tab_val (en (xa, xb, xc)) (fun r w1 hr hg hA => by obtain ⟨q0, -⟩ := hA; have q0e : r (.tmp 3) = .pointer (some ⟨w.heap.size, 0, none⟩) := q0; have hc := BX2.out _ (hg1.trans hg); exact ⟨rfl, by simp [go_sem, q0e, hc]⟩) ?_
          refine tab_block (.cells #[.int .i64 xa, .int .i64 xb, .int .i64 xc] 35 (0, 0)) (fun b => .slice (some ⟨b, 0, none⟩) 1 1) (fun r w1 hr hg hA => by obtain ⟨⟨_, q0⟩, -⟩ := hA; have q0e : r (.tmp 27) = en (xa, xb, xc) := q0; exact ⟨rfl, by simp [go_sem, q0e]⟩) ?_
          refine tab_end ?_
          simp only [List.reverse_cons, List.reverse_nil, List.nil_append, List.cons_append, Out, BlockP, forall_eq, forall_const, Act.put, List.setIfInBounds_toArray, List.set_cons_succ, List.set_cons_zero]
          intro wB hgA
          intro v22 hv22 v26 hv26 v28 hv28
          obtain ⟨b28, rfl, hb28⟩ := hv28
          have GB := Lib.hid (GA2.out.trans (hg1.trans hgA))
          have GB0 := Lib.hid (GA2.out.trans hg1)
          have HO := Lib.hid hv26
          have HE := Lib.hid ((ents_block (l := [(xa, xb, xc)]) hb28 rfl (by simp)).row)
          have hsz := hgA.size
          have hsw : w.heap.size ≤ w0.heap.size := GB0.out.size
          have hgB := hgA
          clear hg1 hgA hg1' hw0 hv22 hv26 hb28 BX2
          have HD : Hid (∀ w', Grows w0 w' → RowAt 3 w' (.slice (some ad) 0 0) (0) (flat3 (L.drop n))) := Lib.hid fun w' hg => ⟨by rw [List.drop_of_length_le (by rw [HLn.out]; omega)]; simp [flat3], fun x hx => flat3_cell _ hx, .inl ⟨by omega, _, _, by rw [show 0 = 0 by omega], fun h => by cases h⟩⟩
          go_wp2_with (at_builtin; first | (refine append_row rfl _ _ 28 rfl w0.heap.size 35 i0 _ 3 24 Try.underlying28 hi0 hz0 hz1 hz2 rfl (by decide) v26 n _ rfl HO.out 1 _ _ rfl HE.out (by unfold maxLen; omega) (by omega) hsz ?_; intro v5 w5 hown5 hgr5; have O5 := Lib.hid hown5; have G5 := Lib.hid (hgr5 w GB.out hsw); have G5B := Lib.hid (hgr5 w0 hgB (Nat.le_refl _)); clear hown5 hgr5) | (refine append_row rfl _ _ 28 rfl w0.heap.size 35 i0 _ 3 24 Try.underlying28 hi0 hz0 hz1 hz2 rfl (by decide) v5 (n + 1) _ rfl O5.out (0) _ _ rfl (HD.out _ G5B.out) (by unfold maxLen; omega) (by omega) G5B.out.size ?_; intro v6 w6 hown6 hgr6; have O6 := Lib.hid hown6; have G6 := Lib.hid (hgr6 w G5.out hsw); clear hown6 hgr6))
          go_ret
          refine ⟨_, rfl, ?_, G6.out⟩
          have h1 := O6.out
          have hl : (insE L (xa, xb, xc)).length = n + 1 + 0 := by
            rw [HI.out]
            simp only [List.length_append, List.length_take, List.length_drop, List.length_singleton, HLn.out]
            omega
          rw [hl, HI.out, flat3_append, flat3_append]
          exact own_base h1 hsw
        · have hkc' : ¬ c = n := fun h => hck h.symm
          go_wp2_with fail
          refine wp_region_tab 13 (by kernel_rfl) (by kernel_rfl) ?_
          intro w0 hw0 hg1 hg1'
          simp only [List.take_succ_cons, List.take_zero, List.drop_succ_cons, List.drop_zero]
          refine tab_val (iv n) (fun r w1 hr hg hA => by obtain ⟨q0, -⟩ := hA; have q0e : r (.tmp 5) = iv n := q0; exact ⟨rfl, by simp [go_sem, q0e]⟩) ?_
          refine tab_val (.slice (some ad) n c) (fun r w1 hr hg hA => by obtain ⟨q0, -⟩ := hA; have q0e : r (.tmp 0) = .slice (some ad) n c := q0; exact ⟨rfl, by simp [go_sem, q0e]⟩) ?_
          refine tab_val (iv n) (fun r w1 hr hg hA => by obtain ⟨⟨_, q0⟩, -⟩ := hA; have q0e : r (.tmp 8) = .slice (some ad) n c := q0; exact ⟨rfl, by simp [go_sem, q0e]⟩) ?_
          refine tab_val (.bool false) (fun r w1 hr hg hA => by obtain ⟨⟨_, q0⟩, ⟨_, q1⟩, -⟩ := hA; have q0e : r (.tmp 7) = iv n := q0; have q1e : r (.tmp 9) = iv n := q1; exact ⟨rfl, by simp [go_sem, q0e, q1e, hkn]⟩) ?_
          refine tab_val (.bool false) (fun r w1 hr hg hA => by obtain ⟨⟨_, q0⟩, -⟩ := hA; have q0e : r (.tmp 10) = .bool false := q0; exact ⟨rfl, by simp [go_sem, q0e]⟩) ?_
          refine tab_skip (fun r w1 hr hg hA => by obtain ⟨q0, ⟨_, q1⟩, -⟩ := hA; have q0e : r (.tmp 3) = .pointer (some ⟨w.heap.size, 0, none⟩) := q0; have q1e : r (.tmp 11) = .bool false := q1; exact ⟨_, q1e, rfl⟩) ?_
          refine tab_skip (fun r w1 hr hg hA => by obtain ⟨q0, ⟨_, q1⟩, -⟩ := hA; have q0e : r (.tmp 0) = .slice (some ad) n c := q0; have q1e : r (.tmp 11) = .bool false := q1; exact ⟨_, q1e, rfl⟩) ?_
          refine tab_skip (fun r w1 hr hg hA => by obtain ⟨q0, ⟨_, q1⟩, -⟩ := hA; have q0e : r (.tmp 5) = iv n := q0; have q1e : r (.tmp 11) = .bool false := q1; exact ⟨_, q1e, rfl⟩) ?_
          refine tab_skip (fun r w1 hr hg hA => by obtain ⟨⟨_, q0⟩, ⟨_, q1⟩, ⟨_, q2⟩, -⟩ := hA; have q0e : r (.tmp 13) = undef := q0; have q1e : r (.tmp 14) = undef := q1; have q2e : r (.tmp 11) = .bool false := q2; exact ⟨_, q2e, rfl⟩) ?_
          refine tab_skip (fun r w1 hr hg hA => by obtain ⟨⟨_, q0⟩, ⟨_, q1⟩, -⟩ := hA; have q0e : r (.tmp 15) = undef := q0; have q1e : r (.tmp 11) = .bool false := q1; exact ⟨_, q1e, rfl⟩) ?_
          refine tab_skip (fun r w1 hr hg hA => by obtain ⟨⟨_, q0⟩, ⟨_, q1⟩, ⟨_, q2⟩, -⟩ := hA; have q0e : r (.tmp 12) = undef := q0; have q1e : r (.tmp 16) = undef := q1; have q2e : r (.tmp 11) = .bool false := q2; exact ⟨_, q2e, rfl⟩) ?_
          refine tab_skip (fun r w1 hr hg hA => by obtain ⟨⟨_, q0⟩, ⟨_, q1⟩, -⟩ := hA; have q0e : r (.tmp 17) = undef := q0; have q1e : r (.tmp 11) = .bool false := q1; exact ⟨_, q1e, rfl⟩) ?_
          refine tab_val (.bool false) (fun r w1 hr hg hA => by obtain ⟨⟨_, q0⟩, ⟨_, q1⟩, -⟩ := hA; have q0e : r (.tmp 11) = .bool false := q0; have q1e : r (.tmp 18) = undef := q1; exact ⟨rfl, by simp [go_sem, hr.const, q0e]⟩) ?_
          refine tab_end ?_
          simp only [List.reverse_cons, List.reverse_nil, List.nil_append, List.cons_append, Out, BlockP, forall_eq, forall_const, Act.put, List.setIfInBounds_toArray, List.set_cons_succ, List.set_cons_zero]
          intro wA hgA
          have GA := Lib.hid (G.out.trans (hg1.trans hgA))
          have BX2 := Lib.hid (fun w' (hg : Grows wA w') => BX.out w' ((hg1.trans hgA).trans hg))
          clear hg1 hgA hg1' hw0
          clear BX HLS
          have GA2 : Hid (Grows w wA) := Lib.hid (((Grows.refl w).al _).trans GA.out)
          have HR : Hid (∀ w', Grows wA w' → RowAt 3 w' (.slice (some ad) n c) n (flat3 (L.take n))) := Lib.hid fun w' hg => by
            have := (((HU.out.grows (GA2.out.trans hg))).take hk).row
            rw [List.length_take, HLn.out, Nat.min_eq_left hk] at this
            exact this
          go_wp2_with fail
          refine wp_region_tab 7 (by kernel_rfl) (by kernel_rfl) ?_
          intro w0 hw0 hg1 hg1'
          simp only [List.take_succ_cons, List.take_zero, List.drop_succ_cons, List.drop_zero]
          refine tab_empty 35 (fun r w1 hr hg hA => ⟨rfl, by simp [go_sem]⟩) ?_
          refine tab_val (.slice (some ad) n c) (fun r w1 hr hg hA => by obtain ⟨q0, -⟩ := hA; have q0e : r (.tmp 0) = .slice (some ad) n c := q0; exact ⟨rfl, by simp [go_sem, q0e]⟩) ?_
          refine tab_val (iv n) (fun r w1 hr hg hA => by obtain ⟨q0, -⟩ := hA; have q0e : r (.tmp 5) = iv n := q0; exact ⟨rfl, by simp [go_sem, q0e]⟩) ?_
          refine tab_val (.slice (some ad) n c) (fun r w1 hr hg hA => by obtain ⟨⟨_, q0⟩, ⟨_, q1⟩, -⟩ := hA; have q0e : r (.tmp 23) = .slice (some ad) n c := q0; have q1e : r (.tmp 24) = iv n := q1; exact ⟨rfl, by simp [go_sem, q0e, q1e, hk, hkc]⟩) ?_
          refine tab_append0 _ _ 28 35 i0 _ 3 24 n (flat3 (L.take n)) rfl Try.underlying28 hi0 hz0 hz1 hz2 rfl (by decide) (by unfold maxLen; omega) (by omega) (fun r w1 hr hg hA => by obtain ⟨⟨_, q0⟩, ⟨_, q1⟩, -⟩ := hA; have q1e : r (.tmp 25) = .slice (some ad) n c := q1; exact ⟨rfl, q0, by rw [q1e]; exact HR.out w1 (hg1.trans hg)⟩) ?_
          refine tab_val (en (xa, xb, xc)) (fun r w1 hr hg hA => by obtain ⟨q0, -⟩ := hA; have q0e : r (.tmp 3) = .pointer (some ⟨w.heap.size, 0, none⟩) := q0; have hc := BX2.out _ (hg1.trans hg); exact ⟨rfl, by simp [go_sem, q0e, hc]⟩) ?_
          refine tab_block (.cells #[.int .i64 xa, .int .i64 xb, .int .i64 xc] 35 (0, 0)) (fun b => .slice (some ⟨b, 0, none⟩) 1 1) (fun r w1 hr hg hA => by obtain ⟨⟨_, q0⟩, -⟩ := hA; have q0e : r (.tmp 27) = en (xa, xb, xc) := q0; exact ⟨rfl, by simp [go_sem, q0e]⟩) ?_
          refine tab_end ?_
          simp only [List.reverse_cons, List.reverse_nil, List.nil_append, List.cons_append, Out, BlockP, forall_eq, forall_const, Act.put, List.setIfInBounds_toArray, List.set_cons_succ, List.set_cons_zero]
          intro wB hgA
          intro v22 hv22 v26 hv26 v28 hv28
          obtain ⟨b28, rfl, hb28⟩ := hv28
          have GB := Lib.hid (GA2.out.trans (hg1.trans hgA))
          have GB0 := Lib.hid (GA2.out.trans hg1)
          have HO := Lib.hid hv26
          have HE := Lib.hid ((ents_block (l := [(xa, xb, xc)]) hb28 rfl (by simp)).row)
          have hsz := hgA.size
          have hsw : w.heap.size ≤ w0.heap.size := GB0.out.size
          have hgB := hgA
          clear hg1 hgA hg1' hw0 hv22 hv26 hb28 BX2
          have HD : Hid (∀ w', Grows w0 w' → RowAt 3 w' (.slice (some (ad.add (n * 3))) 0 (c - n)) (0) (flat3 (L.drop n))) := Lib.hid fun w' hg => ⟨by rw [List.drop_of_length_le (by rw [HLn.out]; omega)]; simp [flat3], fun x hx => flat3_cell _ hx, .inl ⟨by omega, _, _, by rw [show 0 = 0 by omega], fun h => by cases h⟩⟩
          go_wp2_with (at_builtin; first | (refine append_row rfl _ _ 28 rfl w0.heap.size 35 i0 _ 3 24 Try.underlying28 hi0 hz0 hz1 hz2 rfl (by decide) v26 n _ rfl HO.out 1 _ _ rfl HE.out (by unfold maxLen; omega) (by omega) hsz ?_; intro v5 w5 hown5 hgr5; have O5 := Lib.hid hown5; have G5 := Lib.hid (hgr5 w GB.out hsw); have G5B := Lib.hid (hgr5 w0 hgB (Nat.le_refl _)); clear hown5 hgr5) | (refine append_row rfl _ _ 28 rfl w0.heap.size 35 i0 _ 3 24 Try.underlying28 hi0 hz0 hz1 hz2 rfl (by decide) v5 (n + 1) _ rfl O5.out (0) _ _ rfl (HD.out _ G5B.out) (by unfold maxLen; omega) (by omega) G5B.out.size ?_; intro v6 w6 hown6 hgr6; have O6 := Lib.hid hown6; have G6 := Lib.hid (hgr6 w G5.out hsw); clear hown6 hgr6))
          go_ret
          refine ⟨_, rfl, ?_, G6.out⟩
          have h1 := O6.out
          have hl : (insE L (xa, xb, xc)).length = n + 1 + 0 := by
            rw [HI.out]
            simp only [List.length_append, List.length_take, List.length_drop, List.length_singleton, HLn.out]
            omega
          rw [hl, HI.out, flat3_append, flat3_append]
          exact own_base h1 hsw
end Go.Proofs.Ytcmlcoedgfehgaa
