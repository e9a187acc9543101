/-
  Layer 5: entries held against the document's; all entries.
-/
import Derived.Test.YtcmlcoedgfehgaaH18
namespace Go.Proofs.Ytcmlcoedgfehgaa
open Go.RowKit Go.Tab Go.WideShapes

theorem neIf {w : World} {a1 a2 a3 b1 b2 b3 : Int} : (if a1 = b1 then if a2 = b2 then if a3 = b3 then Result.ok (Next.value (Value.bool false)) w else Result.ok (Next.value (Value.bool true)) w else Result.ok (Next.value (Value.bool true)) w else Result.ok (Next.value (Value.bool true)) w) = Result.ok (Next.value (Value.bool (!(beqE (a1, a2, a3) (b1, b2, b3))))) w := by
  unfold beqE
  by_cases h1 : a1 = b1 <;> by_cases h2 : a2 = b2 <;> by_cases h3 : a3 = b3 <;> simp [h1, h2, h3]
theorem ne_of_getD {l m : List Ent3} {k : Nat} (h : ¬ ge l k = ge m k) : l ≠ m := fun e => h (by rw [e])
theorem eq_of_ge {l m : List Ent3} (hl : l.length = m.length) (h : ∀ j, j < l.length → ge l j = ge m j) : l = m := by
  refine List.ext_getElem hl fun i h1 h2 => ?_
  have := h i h1
  simpa [List.getD_eq_getElem?_getD, h1, h2] using this

set_option maxRecDepth 100000 in
set_option maxHeartbeats 4000000 in
theorem same_any (u v : Value) (l m : List Ent3) (w : World) (hu : EntsAt w u l) (hv : EntsAt w v m) (hn : l.length ≤ 1000) (hm : m.length ≤ 1000) :
    Calls Try.prog 13 #[u, v] w (Ret (.bool (decide (l = m))) w) := by
  obtain ⟨a, c, rfl, hc, _⟩ := hu.shape
  obtain ⟨a2, c2, rfl, hc2, _⟩ := hv.shape
  have HU := Lib.hid hu
  have HV := Lib.hid hv
  clear hu hv
  obtain ⟨n, hln⟩ : ∃ n, n = l.length := ⟨_, rfl⟩
  obtain ⟨n2, hln2⟩ : ∃ n2, n2 = m.length := ⟨_, rfl⟩
  rw [← hln] at hn hc HU ⊢
  rw [← hln2] at hm hc2 HV ⊢
  have HN := Lib.hid hln
  have HN2 := Lib.hid hln2
  clear hln hln2
  by_cases hnn : n = n2
  · subst hnn
    go_enter Try.func13, Try.ntmps13
    go_wp2
    go_loopw [5] (fun i wr => ∃ k : Nat, i = iv k ∧ k ≤ n ∧ (∀ j, j < k → ge l j = ge m j) ∧ Grows w wr) (fun i _ => 1001 - (intOf i).toNat)
    case atStart => exact ⟨0, rfl, Nat.zero_le _, fun j hj => absurd hj (Nat.not_lt_zero _), Grows.refl _⟩
    case round =>
      obtain ⟨k, rfl, hk, heq, hg⟩ := hrel
      have HEQ := Lib.hid heq
      have G := Lib.hid hg
      clear heq hg
      by_cases hkn : k < n
      · obtain ⟨b, off, rfl, hb, _⟩ := HU.out.at_ (i := k) (by rw [← HN.out]; exact hkn)
        obtain ⟨b2, off2, rfl, hb2, _⟩ := HV.out.at_ (i := k) (by rw [← HN2.out]; exact hkn)
        obtain ⟨x, hx⟩ : ∃ x, x = ge l k := ⟨_, rfl⟩
        obtain ⟨y, hy⟩ : ∃ y, y = ge m k := ⟨_, rfl⟩
        have HC : Hid (∀ w', Grows wr w' → w'.cell? ⟨b, off + k * 3, none⟩ = some (.int .i64 x.1) ∧ w'.cell? ⟨b, off + k * 3 + 1, none⟩ = some (.int .i64 x.2.1) ∧ w'.cell? ⟨b, off + k * 3 + 2, none⟩ = some (.int .i64 x.2.2)) := Lib.hid fun w' hg => by
          rw [hx]
          exact (HU.out.grows (G.out.trans hg)).at_cell (by rw [← HN.out]; exact hkn)
        have HC2 : Hid (∀ w', Grows wr w' → w'.cell? ⟨b2, off2 + k * 3, none⟩ = some (.int .i64 y.1) ∧ w'.cell? ⟨b2, off2 + k * 3 + 1, none⟩ = some (.int .i64 y.2.1) ∧ w'.cell? ⟨b2, off2 + k * 3 + 2, none⟩ = some (.int .i64 y.2.2)) := Lib.hid fun w' hg => by
          rw [hy]
          exact (HV.out.grows (G.out.trans hg)).at_cell (by rw [← HN2.out]; exact hkn)
        obtain ⟨xa, xb, xc⟩ := x
        obtain ⟨ya, yb, yc⟩ := y
        have HX := Lib.hid hx
        have HY := Lib.hid hy
        clear hx hy
        go_wp2_with fail
        refine wp_region_tab 9 (by kernel_rfl) (by kernel_rfl) ?_
        intro w0 hw0 hg1 hg1'
        simp only [List.take_succ_cons, List.take_zero, List.drop_succ_cons, List.drop_zero]
        refine tab_val (.slice (some ⟨b, off, none⟩) n c) (fun r w1 hr hg hA => by obtain ⟨q0, -⟩ := hA; have q0e : r (.tmp 0) = .slice (some ⟨b, off, none⟩) n c := q0; exact ⟨rfl, by simp [go_sem, q0e]⟩) ?_
        refine tab_val (iv k) (fun r w1 hr hg hA => by obtain ⟨q0, -⟩ := hA; have q0e : r (.tmp 5) = iv k := q0; exact ⟨rfl, by simp [go_sem, q0e]⟩) ?_
        refine tab_val (.pointer (some ⟨b, off + k * 3, none⟩)) (fun r w1 hr hg hA => by obtain ⟨⟨_, q0⟩, ⟨_, q1⟩, -⟩ := hA; have q0e : r (.tmp 17) = .slice (some ⟨b, off, none⟩) n c := q0; have q1e : r (.tmp 18) = iv k := q1; exact ⟨rfl, by simp [go_sem, q0e, q1e, hkn]⟩) ?_
        refine tab_val (en (xa, xb, xc)) (fun r w1 hr hg hA => by obtain ⟨⟨_, q0⟩, -⟩ := hA; have q0e : r (.tmp 19) = .pointer (some ⟨b, off + k * 3, none⟩) := q0; have hc := And.intro (HC.out _ (hg1.trans hg)) (HC2.out _ (hg1.trans hg)); exact ⟨rfl, by simp [go_sem, q0e, hc]⟩) ?_
        refine tab_val (.slice (some ⟨b2, off2, none⟩) n c2) (fun r w1 hr hg hA => by obtain ⟨q0, -⟩ := hA; have q0e : r (.tmp 1) = .slice (some ⟨b2, off2, none⟩) n c2 := q0; exact ⟨rfl, by simp [go_sem, q0e]⟩) ?_
        refine tab_val (iv k) (fun r w1 hr hg hA => by obtain ⟨q0, -⟩ := hA; have q0e : r (.tmp 5) = iv k := q0; exact ⟨rfl, by simp [go_sem, q0e]⟩) ?_
        refine tab_val (.pointer (some ⟨b2, off2 + k * 3, none⟩)) (fun r w1 hr hg hA => by obtain ⟨⟨_, q0⟩, ⟨_, q1⟩, -⟩ := hA; have q0e : r (.tmp 21) = .slice (some ⟨b2, off2, none⟩) n c2 := q0; have q1e : r (.tmp 22) = iv k := q1; exact ⟨rfl, by simp [go_sem, q0e, q1e, hkn]⟩) ?_
        refine tab_val (en (ya, yb, yc)) (fun r w1 hr hg hA => by obtain ⟨⟨_, q0⟩, -⟩ := hA; have q0e : r (.tmp 23) = .pointer (some ⟨b2, off2 + k * 3, none⟩) := q0; have hc := And.intro (HC.out _ (hg1.trans hg)) (HC2.out _ (hg1.trans hg)); exact ⟨rfl, by simp [go_sem, q0e, hc]⟩) ?_
        refine tab_val (.bool (!(beqE (xa, xb, xc) (ya, yb, yc)))) (fun r w1 hr hg hA => by obtain ⟨⟨_, q0⟩, ⟨_, q1⟩, -⟩ := hA; have q0e : r (.tmp 20) = en (xa, xb, xc) := q0; have q1e : r (.tmp 24) = en (ya, yb, yc) := q1; exact ⟨rfl, by simp [go_sem, q0e, q1e, neIf]⟩) ?_
        refine tab_end ?_
        simp only [List.reverse_cons, List.reverse_nil, List.nil_append, List.cons_append, Out, BlockP, forall_eq, forall_const, Act.put, List.setIfInBounds_toArray, List.set_cons_succ, List.set_cons_zero]
        intro wA hgA
        have GA := Lib.hid (G.out.trans (hg1.trans hgA))
        clear hg1 hgA hg1' hw0 HC HC2
        by_cases heq : ((xa, xb, xc) : Ent3) = (ya, yb, yc)
        · rw [beqE_yes heq]
          go_wp2
          refine ⟨⟨k + 1, by simp, by omega, fun j hj => ?_, GA.out⟩, by simp only [intOf]; omega⟩
          by_cases hjk : j < k
          · exact HEQ.out j hjk
          · rw [show j = k by omega, ← HX.out, ← HY.out]; exact heq
        · rw [beqE_no heq]
          have HNE : Hid (l ≠ m) := Lib.hid (ne_of_getD (k := k) (by rw [← HX.out, ← HY.out]; exact heq))
          clear heq
          go_wp2
          go_ret
          exact ⟨ret_bool (decide_eq_false HNE.out).symm, GA.out⟩
      · have hkk : k = n := by omega
        have HE : Hid (l = m) := Lib.hid (eq_of_ge (by rw [← HN.out, ← HN2.out]) (by rw [← HN.out, ← hkk]; exact HEQ.out))
        clear hkk
        go_wp2
        go_ret
        exact ⟨ret_bool (decide_eq_true HE.out).symm, G.out⟩
  · have HNE : Hid (l ≠ m) := Lib.hid fun e => hnn (by rw [HN.out, HN2.out, e])
    go_enter Try.func13, Try.ntmps13
    go_wp2
    go_ret
    exact ⟨ret_bool (decide_eq_false HNE.out).symm, Grows.refl w⟩

set_option maxHeartbeats 4000000 in
theorem all_heap {w : World} {hb B : Nat} {v : Value} {L : List Ent3} (h : HeapAt w hb B v L) (hn : L.length ≤ 1000) : Calls Try.prog 14 #[.pointer (some ⟨hb, 0, none⟩)] w (RetEnts (srtE L) w) := by
  have c0 := h.cell
  have HE := Lib.hid (h.ents (by omega))
  clear h
  go_enter Try.func14, Try.ntmps14
  go_wp2_with fail
  refine (sort_any v L _ HE.out hn).mono ?_
  rintro _ w1 ⟨v', rfl, hown, hg⟩
  go_wp2
  go_ret
  exact ⟨v', rfl, hown, hg⟩
end Go.Proofs.Ytcmlcoedgfehgaa
