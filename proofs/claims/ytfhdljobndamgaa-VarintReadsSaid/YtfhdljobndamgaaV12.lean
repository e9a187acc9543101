/-
  Layer 7: the law on reading.
-/
import Derived.Test.YtfhdljobndamgaaV16
namespace Go.Proofs.Ytfhdljobndamgaa
open Go.RowKit Go.Tab

set_option maxRecDepth 100000 in
set_option maxHeartbeats 4000000 in
theorem law_readsA (l : List Nat) (a : Option Addr) (n cap : Nat) (w : World) (hn : (n : Int) ≤ 200) (hnc : n ≤ cap) (hcap : cap ≤ 9223372036854775807) (Hn : Hid (l.length = n)) (hx : Hid (∀ x ∈ l, x < 256))
    (hp : Hid (NumsAt .u8 w (.slice a n cap) l)) :
    Calls Try.prog 4 #[.slice a n cap] w (Ret (.bool true) w) := by
  have hle : l.length ≤ 1000 := by rw [Hn.out]; omega
  have HLe := Lib.hid hle
  clear hle
  have Lt := Lib.hid (rd_lt l hx.out)
  have L1 : Hid ((rows l).1.length ≤ 1000) := Lib.hid (by have := (rows_facts l hx.out).1; have := HLe.out; omega)
  have L2 := Lib.hid (rows_facts l hx.out).2
  have Q1 : Hid (∀ w', Grows w w' → NumsAt .u8 w' (.slice a n cap) l) := Lib.hid fun w' hg => hp.out.grows hg
  have PE : Hid ((rd l).2.2 = 0 → ((rd l).2.1 ≤ n ∧ ∀ w', Grows w w' → NumsAt .u8 w' (.slice a (rd l).2.1 cap) (enc (rd l).1))) := Lib.hid fun he => by
    have h1 := (rd_size l he).2
    rw [Hn.out] at h1
    refine ⟨h1, fun w' hg => ?_⟩
    rw [rd_enc l hx.out he]
    exact NumsAt.take (hp.out.grows hg) h1
  go_enter Try.func4, Try.ntmps4
  go_wp2_with fail
  refine (read_any _ l _ hp.out hx.out).mono ?_
  rintro _ w1 ⟨rfl, hg⟩
  have G1 := Lib.hid hg
  clear hg
  go_wp2_with fail
  refine (rread_any _ l _ (hp.out.grows G1.out) hx.out).mono ?_
  rintro _ w2 ⟨rfl, hg⟩
  have G2 := Lib.hid (G1.out.trans hg)
  clear hg G1
  go_wp2_with fail
  refine (row_any _ l _ (hp.out.grows G2.out) hx.out HLe.out).mono ?_
  rintro _ w3 ⟨v1, rfl, hv1, hg⟩
  have V1 := Lib.hid hv1
  have G3 := Lib.hid (G2.out.trans hg)
  clear hg G2 hv1
  go_wp2_with fail
  refine (rrow_any _ l _ (hp.out.grows G3.out) hx.out HLe.out).mono ?_
  rintro _ w4 ⟨v2, rfl, hv2, hg⟩
  have V1' := Lib.hid (V1.out.grows hg)
  have V2 := Lib.hid hv2
  have G4 := Lib.hid (G3.out.trans hg)
  clear hg G3 hv2 V1
  go_wp2_with fail
  refine (same_any v1 v2 (rows l).1 (rows l).1 _ V1'.out V2.out).mono ?_
  rw [show decide ((rows l).1 = (rows l).1) = true by simp]
  rintro _ w5 ⟨rfl, hg⟩
  have V3 := Lib.hid (V1'.out.grows hg)
  have Gx := Lib.hid (G4.out.trans hg)
  clear hg G4 V1' V2 hp
  go_wp2_with fail
  by_cases he : (rd l).2.2 = 0
  · obtain ⟨hk, hP⟩ := PE.out he
    have K1 : Hid ((rd l).2.1 ≤ cap) := Lib.hid (by have := hnc; omega)
    have P1 := Lib.hid hP
    have K2 := K1
    by_cases hf : (rows l).2.2 = 0
    · have L3 := Lib.hid (rows_enc l hx.out hf)
      have L4 : Hid (l.length ≤ 17592186044416) := Lib.hid (by have := HLe.out; omega)
      refine wp_region_tab 24 (by kernel_rfl) (by kernel_rfl) ?_
      intro w0 hw0 hg0 hg0'
      simp only [List.take_succ_cons, List.take_zero, List.drop_succ_cons, List.drop_zero]
      refine tab_call (v := .bool true) (fun w1 hg => kn_any w1) (fun r w1 hr hg hA => by exact ⟨rfl, by simp [go_sem, hr.func]⟩) ?_
      refine tab_val (.bool true) (fun r w1 hr hg hA => by obtain ⟨⟨_, q0⟩, -⟩ := hA; have q0e : r (.tmp 73) = .bool true := q0; exact ⟨rfl, by simp [go_sem, q0e]⟩) ?_
      refine tab_val (.int .i64 ((rd l).2.2 : Int)) (fun r w1 hr hg hA => by obtain ⟨q0, ⟨_, q1⟩, -⟩ := hA; have q0e : r (.tmp 5) = .int .i64 ((rd l).2.2 : Int) := q0; have q1e : r (.tmp 74) = .bool true := q1; exact ⟨⟨_, q1e, rfl⟩, by simp [go_sem, q0e]⟩) ?_
      refine tab_val (.bool false) (fun r w1 hr hg hA => by obtain ⟨⟨_, q0⟩, ⟨_, q1⟩, -⟩ := hA; have q0e : r (.tmp 75) = .int .i64 ((rd l).2.2 : Int) := q0; have q1e : r (.tmp 74) = .bool true := q1; exact ⟨⟨_, q1e, rfl⟩, by simp [go_sem, hr.const, q0e, he]⟩) ?_
      refine tab_val (.bool false) (fun r w1 hr hg hA => by obtain ⟨⟨_, q0⟩, ⟨_, q1⟩, -⟩ := hA; have q0e : r (.tmp 76) = .bool false := q0; have q1e : r (.tmp 74) = .bool true := q1; exact ⟨⟨_, q1e, rfl⟩, by simp [go_sem, q0e]⟩) ?_
      refine tab_val (.int .u64 ((rd l).1 : Int)) (fun r w1 hr hg hA => by obtain ⟨q0, ⟨_, q1⟩, -⟩ := hA; have q0e : r (.tmp 3) = .int .u64 ((rd l).1 : Int) := q0; have q1e : r (.tmp 77) = .bool false := q1; exact ⟨⟨_, q1e, rfl⟩, by simp [go_sem, q0e]⟩) ?_
      refine tab_new (.cells #[.int .u64 ((rd l).1 : Int)] 23 (0, 0)) (fun b => .slice (some ⟨b, 0, none⟩) 1 1) (fun r w1 hr hg hA => by obtain ⟨⟨_, q0⟩, ⟨_, q1⟩, -⟩ := hA; have q0e : r (.tmp 78) = .int .u64 ((rd l).1 : Int) := q0; have q1e : r (.tmp 77) = .bool false := q1; exact ⟨⟨_, q1e, rfl⟩, by simp [go_sem, q0e]⟩) ?_
      refine tab_callQ (fun v w2 => NumsAt .u8 w2 v (enc (rd l).1)) (fun v w w2 h hg => NumsAt.grows h hg) (fun r w1 hr hg hA => by obtain ⟨⟨b0, q0, k0⟩, ⟨_, q1⟩, -⟩ := hA; have q0e : r (.tmp 79) = .slice (some ⟨b0, 0, none⟩) 1 1 := q0; have k0e : w1.heap[b0]? = some (.cells #[.int .u64 ((rd l).1 : Int)] 23 (0, 0)) := k0; have q1e : r (.tmp 77) = .bool false := q1; exact ⟨⟨_, q1e, rfl⟩, _, by simp [go_sem, hr.func, q0e], bytes_one _ (rd l).1 _ k0e Lt.out⟩) ?_
      refine tab_val (.slice a n cap) (fun r w1 hr hg hA => by obtain ⟨q0, ⟨_, q1⟩, -⟩ := hA; have q0e : r (.tmp 0) = .slice a n cap := q0; have q1e : r (.tmp 77) = .bool false := q1; exact ⟨⟨_, q1e, rfl⟩, by simp [go_sem, q0e]⟩) ?_
      refine tab_val (.int .i64 ((rd l).2.1 : Int)) (fun r w1 hr hg hA => by obtain ⟨q0, ⟨_, q1⟩, -⟩ := hA; have q0e : r (.tmp 7) = .int .i64 ((rd l).2.1 : Int) := q0; have q1e : r (.tmp 77) = .bool false := q1; exact ⟨⟨_, q1e, rfl⟩, by simp [go_sem, q0e]⟩) ?_
      refine tab_val (.slice a (rd l).2.1 cap) (fun r w1 hr hg hA => by obtain ⟨⟨_, q0⟩, ⟨_, q1⟩, ⟨_, q2⟩, -⟩ := hA; have q0e : r (.tmp 81) = .slice a n cap := q0; have q1e : r (.tmp 82) = .int .i64 ((rd l).2.1 : Int) := q1; have q2e : r (.tmp 77) = .bool false := q2; exact ⟨⟨_, q2e, rfl⟩, by simp [go_sem, q0e, q1e, K1.out, K2.out]⟩) ?_
      refine tab_callP (v := .bool true) (fun r w1 hr hg hA => by obtain ⟨⟨_, q0⟩, ⟨_, q1⟩, ⟨_, q2⟩, -⟩ := hA; have q1e : r (.tmp 83) = .slice a (rd l).2.1 cap := q1; have q2e : r (.tmp 77) = .bool false := q2; exact ⟨⟨_, q2e, rfl⟩, _, by simp [go_sem, hr.func, q1e], Same_yes _ _ (enc (rd l).1) _ q0 (P1.out _ (Gx.out.trans (hg0.trans hg)))⟩) ?_
      refine tab_val (.bool true) (fun r w1 hr hg hA => by obtain ⟨⟨_, q0⟩, ⟨_, q1⟩, ⟨_, q2⟩, -⟩ := hA; have q0e : r (.tmp 77) = .bool false := q0; have q1e : r (.tmp 84) = .bool true := q1; have q2e : r (.tmp 74) = .bool true := q2; exact ⟨⟨_, q2e, rfl⟩, by simp [go_sem, q0e, q1e]⟩) ?_
      refine tab_val (.bool true) (fun r w1 hr hg hA => by obtain ⟨⟨_, q0⟩, ⟨_, q1⟩, -⟩ := hA; have q0e : r (.tmp 74) = .bool true := q0; have q1e : r (.tmp 85) = .bool true := q1; exact ⟨rfl, by simp [go_sem, q0e, q1e]⟩) ?_
      refine tab_val (.bool true) (fun r w1 hr hg hA => by obtain ⟨⟨_, q0⟩, -⟩ := hA; have q0e : r (.tmp 86) = .bool true := q0; exact ⟨rfl, by simp [go_sem, q0e]⟩) ?_
      refine tab_val (.int .i64 ((rows l).2.2 : Int)) (fun r w1 hr hg hA => by obtain ⟨q0, ⟨_, q1⟩, -⟩ := hA; have q0e : r (.tmp 11) = .int .i64 ((rows l).2.2 : Int) := q0; have q1e : r (.tmp 87) = .bool true := q1; exact ⟨⟨_, q1e, rfl⟩, by simp [go_sem, q0e]⟩) ?_
      refine tab_val (.bool false) (fun r w1 hr hg hA => by obtain ⟨⟨_, q0⟩, ⟨_, q1⟩, -⟩ := hA; have q0e : r (.tmp 88) = .int .i64 ((rows l).2.2 : Int) := q0; have q1e : r (.tmp 87) = .bool true := q1; exact ⟨⟨_, q1e, rfl⟩, by simp [go_sem, hr.const, q0e, hf]⟩) ?_
      refine tab_val (.bool false) (fun r w1 hr hg hA => by obtain ⟨⟨_, q0⟩, ⟨_, q1⟩, -⟩ := hA; have q0e : r (.tmp 89) = .bool false := q0; have q1e : r (.tmp 87) = .bool true := q1; exact ⟨⟨_, q1e, rfl⟩, by simp [go_sem, q0e]⟩) ?_
      refine tab_val (v1) (fun r w1 hr hg hA => by obtain ⟨q0, ⟨_, q1⟩, -⟩ := hA; have q0e : r (.tmp 9) = v1 := q0; have q1e : r (.tmp 90) = .bool false := q1; exact ⟨⟨_, q1e, rfl⟩, by simp [go_sem, q0e]⟩) ?_
      refine tab_callQ (fun v w2 => NumsAt .u8 w2 v l) (fun v w w2 h hg => NumsAt.grows h hg) (fun r w1 hr hg hA => by obtain ⟨⟨_, q0⟩, ⟨_, q1⟩, -⟩ := hA; have q0e : r (.tmp 91) = v1 := q0; have q1e : r (.tmp 90) = .bool false := q1; exact ⟨⟨_, q1e, rfl⟩, _, by simp [go_sem, hr.func, q0e], bytes_row _ _ _ _ (V3.out.grows (hg0.trans hg)) L1.out L2.out L3.out L4.out⟩) ?_
      refine tab_val (.slice a n cap) (fun r w1 hr hg hA => by obtain ⟨q0, ⟨_, q1⟩, -⟩ := hA; have q0e : r (.tmp 0) = .slice a n cap := q0; have q1e : r (.tmp 90) = .bool false := q1; exact ⟨⟨_, q1e, rfl⟩, by simp [go_sem, q0e]⟩) ?_
      refine tab_callP (v := .bool true) (fun r w1 hr hg hA => by obtain ⟨⟨_, q0⟩, ⟨_, q1⟩, ⟨_, q2⟩, -⟩ := hA; have q1e : r (.tmp 93) = .slice a n cap := q1; have q2e : r (.tmp 90) = .bool false := q2; exact ⟨⟨_, q2e, rfl⟩, _, by simp [go_sem, hr.func, q1e], Same_yes _ _ l _ q0 (Q1.out _ (Gx.out.trans (hg0.trans hg)))⟩) ?_
      refine tab_val (.bool true) (fun r w1 hr hg hA => by obtain ⟨⟨_, q0⟩, ⟨_, q1⟩, ⟨_, q2⟩, -⟩ := hA; have q0e : r (.tmp 90) = .bool false := q0; have q1e : r (.tmp 94) = .bool true := q1; have q2e : r (.tmp 87) = .bool true := q2; exact ⟨⟨_, q2e, rfl⟩, by simp [go_sem, q0e, q1e]⟩) ?_
      refine tab_val (.bool true) (fun r w1 hr hg hA => by obtain ⟨⟨_, q0⟩, ⟨_, q1⟩, -⟩ := hA; have q0e : r (.tmp 87) = .bool true := q0; have q1e : r (.tmp 95) = .bool true := q1; exact ⟨rfl, by simp [go_sem, q0e, q1e]⟩) ?_
      refine tab_end ?_
      simp only [List.reverse_cons, List.reverse_nil, List.nil_append, List.cons_append, Out, BlockP, forall_eq, forall_const, Act.put, List.setIfInBounds_toArray, List.set_cons_succ, List.set_cons_zero]
      intro wA hgA
      have GA := Lib.hid (Gx.out.trans (hg0.trans hgA))
      clear hg0 hgA hg0' hw0
      intros
      go_wp2
      go_ret
      exact ⟨rfl, GA.out⟩
    · refine wp_region_tab 24 (by kernel_rfl) (by kernel_rfl) ?_
      intro w0 hw0 hg0 hg0'
      simp only [List.take_succ_cons, List.take_zero, List.drop_succ_cons, List.drop_zero]
      refine tab_call (v := .bool true) (fun w1 hg => kn_any w1) (fun r w1 hr hg hA => by exact ⟨rfl, by simp [go_sem, hr.func]⟩) ?_
      refine tab_val (.bool true) (fun r w1 hr hg hA => by obtain ⟨⟨_, q0⟩, -⟩ := hA; have q0e : r (.tmp 73) = .bool true := q0; exact ⟨rfl, by simp [go_sem, q0e]⟩) ?_
      refine tab_val (.int .i64 ((rd l).2.2 : Int)) (fun r w1 hr hg hA => by obtain ⟨q0, ⟨_, q1⟩, -⟩ := hA; have q0e : r (.tmp 5) = .int .i64 ((rd l).2.2 : Int) := q0; have q1e : r (.tmp 74) = .bool true := q1; exact ⟨⟨_, q1e, rfl⟩, by simp [go_sem, q0e]⟩) ?_
      refine tab_val (.bool false) (fun r w1 hr hg hA => by obtain ⟨⟨_, q0⟩, ⟨_, q1⟩, -⟩ := hA; have q0e : r (.tmp 75) = .int .i64 ((rd l).2.2 : Int) := q0; have q1e : r (.tmp 74) = .bool true := q1; exact ⟨⟨_, q1e, rfl⟩, by simp [go_sem, hr.const, q0e, he]⟩) ?_
      refine tab_val (.bool false) (fun r w1 hr hg hA => by obtain ⟨⟨_, q0⟩, ⟨_, q1⟩, -⟩ := hA; have q0e : r (.tmp 76) = .bool false := q0; have q1e : r (.tmp 74) = .bool true := q1; exact ⟨⟨_, q1e, rfl⟩, by simp [go_sem, q0e]⟩) ?_
      refine tab_val (.int .u64 ((rd l).1 : Int)) (fun r w1 hr hg hA => by obtain ⟨q0, ⟨_, q1⟩, -⟩ := hA; have q0e : r (.tmp 3) = .int .u64 ((rd l).1 : Int) := q0; have q1e : r (.tmp 77) = .bool false := q1; exact ⟨⟨_, q1e, rfl⟩, by simp [go_sem, q0e]⟩) ?_
      refine tab_new (.cells #[.int .u64 ((rd l).1 : Int)] 23 (0, 0)) (fun b => .slice (some ⟨b, 0, none⟩) 1 1) (fun r w1 hr hg hA => by obtain ⟨⟨_, q0⟩, ⟨_, q1⟩, -⟩ := hA; have q0e : r (.tmp 78) = .int .u64 ((rd l).1 : Int) := q0; have q1e : r (.tmp 77) = .bool false := q1; exact ⟨⟨_, q1e, rfl⟩, by simp [go_sem, q0e]⟩) ?_
      refine tab_callQ (fun v w2 => NumsAt .u8 w2 v (enc (rd l).1)) (fun v w w2 h hg => NumsAt.grows h hg) (fun r w1 hr hg hA => by obtain ⟨⟨b0, q0, k0⟩, ⟨_, q1⟩, -⟩ := hA; have q0e : r (.tmp 79) = .slice (some ⟨b0, 0, none⟩) 1 1 := q0; have k0e : w1.heap[b0]? = some (.cells #[.int .u64 ((rd l).1 : Int)] 23 (0, 0)) := k0; have q1e : r (.tmp 77) = .bool false := q1; exact ⟨⟨_, q1e, rfl⟩, _, by simp [go_sem, hr.func, q0e], bytes_one _ (rd l).1 _ k0e Lt.out⟩) ?_
      refine tab_val (.slice a n cap) (fun r w1 hr hg hA => by obtain ⟨q0, ⟨_, q1⟩, -⟩ := hA; have q0e : r (.tmp 0) = .slice a n cap := q0; have q1e : r (.tmp 77) = .bool false := q1; exact ⟨⟨_, q1e, rfl⟩, by simp [go_sem, q0e]⟩) ?_
      refine tab_val (.int .i64 ((rd l).2.1 : Int)) (fun r w1 hr hg hA => by obtain ⟨q0, ⟨_, q1⟩, -⟩ := hA; have q0e : r (.tmp 7) = .int .i64 ((rd l).2.1 : Int) := q0; have q1e : r (.tmp 77) = .bool false := q1; exact ⟨⟨_, q1e, rfl⟩, by simp [go_sem, q0e]⟩) ?_
      refine tab_val (.slice a (rd l).2.1 cap) (fun r w1 hr hg hA => by obtain ⟨⟨_, q0⟩, ⟨_, q1⟩, ⟨_, q2⟩, -⟩ := hA; have q0e : r (.tmp 81) = .slice a n cap := q0; have q1e : r (.tmp 82) = .int .i64 ((rd l).2.1 : Int) := q1; have q2e : r (.tmp 77) = .bool false := q2; exact ⟨⟨_, q2e, rfl⟩, by simp [go_sem, q0e, q1e, K1.out, K2.out]⟩) ?_
      refine tab_callP (v := .bool true) (fun r w1 hr hg hA => by obtain ⟨⟨_, q0⟩, ⟨_, q1⟩, ⟨_, q2⟩, -⟩ := hA; have q1e : r (.tmp 83) = .slice a (rd l).2.1 cap := q1; have q2e : r (.tmp 77) = .bool false := q2; exact ⟨⟨_, q2e, rfl⟩, _, by simp [go_sem, hr.func, q1e], Same_yes _ _ (enc (rd l).1) _ q0 (P1.out _ (Gx.out.trans (hg0.trans hg)))⟩) ?_
      refine tab_val (.bool true) (fun r w1 hr hg hA => by obtain ⟨⟨_, q0⟩, ⟨_, q1⟩, ⟨_, q2⟩, -⟩ := hA; have q0e : r (.tmp 77) = .bool false := q0; have q1e : r (.tmp 84) = .bool true := q1; have q2e : r (.tmp 74) = .bool true := q2; exact ⟨⟨_, q2e, rfl⟩, by simp [go_sem, q0e, q1e]⟩) ?_
      refine tab_val (.bool true) (fun r w1 hr hg hA => by obtain ⟨⟨_, q0⟩, ⟨_, q1⟩, -⟩ := hA; have q0e : r (.tmp 74) = .bool true := q0; have q1e : r (.tmp 85) = .bool true := q1; exact ⟨rfl, by simp [go_sem, q0e, q1e]⟩) ?_
      refine tab_val (.bool true) (fun r w1 hr hg hA => by obtain ⟨⟨_, q0⟩, -⟩ := hA; have q0e : r (.tmp 86) = .bool true := q0; exact ⟨rfl, by simp [go_sem, q0e]⟩) ?_
      refine tab_val (.int .i64 ((rows l).2.2 : Int)) (fun r w1 hr hg hA => by obtain ⟨q0, ⟨_, q1⟩, -⟩ := hA; have q0e : r (.tmp 11) = .int .i64 ((rows l).2.2 : Int) := q0; have q1e : r (.tmp 87) = .bool true := q1; exact ⟨⟨_, q1e, rfl⟩, by simp [go_sem, q0e]⟩) ?_
      refine tab_val (.bool true) (fun r w1 hr hg hA => by obtain ⟨⟨_, q0⟩, ⟨_, q1⟩, -⟩ := hA; have q0e : r (.tmp 88) = .int .i64 ((rows l).2.2 : Int) := q0; have q1e : r (.tmp 87) = .bool true := q1; exact ⟨⟨_, q1e, rfl⟩, by simp [go_sem, hr.const, q0e, hf]⟩) ?_
      refine tab_val (.bool true) (fun r w1 hr hg hA => by obtain ⟨⟨_, q0⟩, ⟨_, q1⟩, -⟩ := hA; have q0e : r (.tmp 89) = .bool true := q0; have q1e : r (.tmp 87) = .bool true := q1; exact ⟨⟨_, q1e, rfl⟩, by simp [go_sem, q0e]⟩) ?_
      refine tab_skip (fun r w1 hr hg hA => by obtain ⟨q0, ⟨_, q1⟩, -⟩ := hA; have q0e : r (.tmp 9) = v1 := q0; have q1e : r (.tmp 90) = .bool true := q1; exact ⟨_, q1e, rfl⟩) ?_
      refine tab_skip (fun r w1 hr hg hA => by obtain ⟨⟨_, q0⟩, ⟨_, q1⟩, -⟩ := hA; have q0e : r (.tmp 91) = undef := q0; have q1e : r (.tmp 90) = .bool true := q1; exact ⟨_, q1e, rfl⟩) ?_
      refine tab_skip (fun r w1 hr hg hA => by obtain ⟨q0, ⟨_, q1⟩, -⟩ := hA; have q0e : r (.tmp 0) = .slice a n cap := q0; have q1e : r (.tmp 90) = .bool true := q1; exact ⟨_, q1e, rfl⟩) ?_
      refine tab_skip (fun r w1 hr hg hA => by obtain ⟨⟨_, q0⟩, ⟨_, q1⟩, ⟨_, q2⟩, -⟩ := hA; have q0e : r (.tmp 92) = undef := q0; have q1e : r (.tmp 93) = undef := q1; have q2e : r (.tmp 90) = .bool true := q2; exact ⟨_, q2e, rfl⟩) ?_
      refine tab_val (.bool true) (fun r w1 hr hg hA => by obtain ⟨⟨_, q0⟩, ⟨_, q1⟩, ⟨_, q2⟩, -⟩ := hA; have q0e : r (.tmp 90) = .bool true := q0; have q1e : r (.tmp 94) = undef := q1; have q2e : r (.tmp 87) = .bool true := q2; exact ⟨⟨_, q2e, rfl⟩, by simp [go_sem, hr.const, q0e]⟩) ?_
      refine tab_val (.bool true) (fun r w1 hr hg hA => by obtain ⟨⟨_, q0⟩, ⟨_, q1⟩, -⟩ := hA; have q0e : r (.tmp 87) = .bool true := q0; have q1e : r (.tmp 95) = .bool true := q1; exact ⟨rfl, by simp [go_sem, q0e, q1e]⟩) ?_
      refine tab_end ?_
      simp only [List.reverse_cons, List.reverse_nil, List.nil_append, List.cons_append, Out, BlockP, forall_eq, forall_const, Act.put, List.setIfInBounds_toArray, List.set_cons_succ, List.set_cons_zero]
      intro wA hgA
      have GA := Lib.hid (Gx.out.trans (hg0.trans hgA))
      clear hg0 hgA hg0' hw0
      intros
      go_wp2
      go_ret
      exact ⟨rfl, GA.out⟩
  · by_cases hf : (rows l).2.2 = 0
    · have L3 := Lib.hid (rows_enc l hx.out hf)
      have L4 : Hid (l.length ≤ 17592186044416) := Lib.hid (by have := HLe.out; omega)
      refine wp_region_tab 24 (by kernel_rfl) (by kernel_rfl) ?_
      intro w0 hw0 hg0 hg0'
      simp only [List.take_succ_cons, List.take_zero, List.drop_succ_cons, List.drop_zero]
      refine tab_call (v := .bool true) (fun w1 hg => kn_any w1) (fun r w1 hr hg hA => by exact ⟨rfl, by simp [go_sem, hr.func]⟩) ?_
      refine tab_val (.bool true) (fun r w1 hr hg hA => by obtain ⟨⟨_, q0⟩, -⟩ := hA; have q0e : r (.tmp 73) = .bool true := q0; exact ⟨rfl, by simp [go_sem, q0e]⟩) ?_
      refine tab_val (.int .i64 ((rd l).2.2 : Int)) (fun r w1 hr hg hA => by obtain ⟨q0, ⟨_, q1⟩, -⟩ := hA; have q0e : r (.tmp 5) = .int .i64 ((rd l).2.2 : Int) := q0; have q1e : r (.tmp 74) = .bool true := q1; exact ⟨⟨_, q1e, rfl⟩, by simp [go_sem, q0e]⟩) ?_
      refine tab_val (.bool true) (fun r w1 hr hg hA => by obtain ⟨⟨_, q0⟩, ⟨_, q1⟩, -⟩ := hA; have q0e : r (.tmp 75) = .int .i64 ((rd l).2.2 : Int) := q0; have q1e : r (.tmp 74) = .bool true := q1; exact ⟨⟨_, q1e, rfl⟩, by simp [go_sem, hr.const, q0e, he]⟩) ?_
      refine tab_val (.bool true) (fun r w1 hr hg hA => by obtain ⟨⟨_, q0⟩, ⟨_, q1⟩, -⟩ := hA; have q0e : r (.tmp 76) = .bool true := q0; have q1e : r (.tmp 74) = .bool true := q1; exact ⟨⟨_, q1e, rfl⟩, by simp [go_sem, q0e]⟩) ?_
      refine tab_skip (fun r w1 hr hg hA => by obtain ⟨q0, ⟨_, q1⟩, -⟩ := hA; have q0e : r (.tmp 3) = .int .u64 ((rd l).1 : Int) := q0; have q1e : r (.tmp 77) = .bool true := q1; exact ⟨_, q1e, rfl⟩) ?_
      refine tab_skip (fun r w1 hr hg hA => by obtain ⟨⟨_, q0⟩, ⟨_, q1⟩, -⟩ := hA; have q0e : r (.tmp 78) = undef := q0; have q1e : r (.tmp 77) = .bool true := q1; exact ⟨_, q1e, rfl⟩) ?_
      refine tab_skip (fun r w1 hr hg hA => by obtain ⟨⟨_, q0⟩, ⟨_, q1⟩, -⟩ := hA; have q0e : r (.tmp 79) = undef := q0; have q1e : r (.tmp 77) = .bool true := q1; exact ⟨_, q1e, rfl⟩) ?_
      refine tab_skip (fun r w1 hr hg hA => by obtain ⟨q0, ⟨_, q1⟩, -⟩ := hA; have q0e : r (.tmp 0) = .slice a n cap := q0; have q1e : r (.tmp 77) = .bool true := q1; exact ⟨_, q1e, rfl⟩) ?_
      refine tab_skip (fun r w1 hr hg hA => by obtain ⟨q0, ⟨_, q1⟩, -⟩ := hA; have q0e : r (.tmp 7) = .int .i64 ((rd l).2.1 : Int) := q0; have q1e : r (.tmp 77) = .bool true := q1; exact ⟨_, q1e, rfl⟩) ?_
      refine tab_skip (fun r w1 hr hg hA => by obtain ⟨⟨_, q0⟩, ⟨_, q1⟩, ⟨_, q2⟩, -⟩ := hA; have q0e : r (.tmp 81) = undef := q0; have q1e : r (.tmp 82) = undef := q1; have q2e : r (.tmp 77) = .bool true := q2; exact ⟨_, q2e, rfl⟩) ?_
      refine tab_skip (fun r w1 hr hg hA => by obtain ⟨⟨_, q0⟩, ⟨_, q1⟩, ⟨_, q2⟩, -⟩ := hA; have q0e : r (.tmp 80) = undef := q0; have q1e : r (.tmp 83) = undef := q1; have q2e : r (.tmp 77) = .bool true := q2; exact ⟨_, q2e, rfl⟩) ?_
      refine tab_val (.bool true) (fun r w1 hr hg hA => by obtain ⟨⟨_, q0⟩, ⟨_, q1⟩, ⟨_, q2⟩, -⟩ := hA; have q0e : r (.tmp 77) = .bool true := q0; have q1e : r (.tmp 84) = undef := q1; have q2e : r (.tmp 74) = .bool true := q2; exact ⟨⟨_, q2e, rfl⟩, by simp [go_sem, hr.const, q0e]⟩) ?_
      refine tab_val (.bool true) (fun r w1 hr hg hA => by obtain ⟨⟨_, q0⟩, ⟨_, q1⟩, -⟩ := hA; have q0e : r (.tmp 74) = .bool true := q0; have q1e : r (.tmp 85) = .bool true := q1; exact ⟨rfl, by simp [go_sem, q0e, q1e]⟩) ?_
      refine tab_val (.bool true) (fun r w1 hr hg hA => by obtain ⟨⟨_, q0⟩, -⟩ := hA; have q0e : r (.tmp 86) = .bool true := q0; exact ⟨rfl, by simp [go_sem, q0e]⟩) ?_
      refine tab_val (.int .i64 ((rows l).2.2 : Int)) (fun r w1 hr hg hA => by obtain ⟨q0, ⟨_, q1⟩, -⟩ := hA; have q0e : r (.tmp 11) = .int .i64 ((rows l).2.2 : Int) := q0; have q1e : r (.tmp 87) = .bool true := q1; exact ⟨⟨_, q1e, rfl⟩, by simp [go_sem, q0e]⟩) ?_
      refine tab_val (.bool false) (fun r w1 hr hg hA => by obtain ⟨⟨_, q0⟩, ⟨_, q1⟩, -⟩ := hA; have q0e : r (.tmp 88) = .int .i64 ((rows l).2.2 : Int) := q0; have q1e : r (.tmp 87) = .bool true := q1; exact ⟨⟨_, q1e, rfl⟩, by simp [go_sem, hr.const, q0e, hf]⟩) ?_
      refine tab_val (.bool false) (fun r w1 hr hg hA => by obtain ⟨⟨_, q0⟩, ⟨_, q1⟩, -⟩ := hA; have q0e : r (.tmp 89) = .bool false := q0; have q1e : r (.tmp 87) = .bool true := q1; exact ⟨⟨_, q1e, rfl⟩, by simp [go_sem, q0e]⟩) ?_
      refine tab_val (v1) (fun r w1 hr hg hA => by obtain ⟨q0, ⟨_, q1⟩, -⟩ := hA; have q0e : r (.tmp 9) = v1 := q0; have q1e : r (.tmp 90) = .bool false := q1; exact ⟨⟨_, q1e, rfl⟩, by simp [go_sem, q0e]⟩) ?_
      refine tab_callQ (fun v w2 => NumsAt .u8 w2 v l) (fun v w w2 h hg => NumsAt.grows h hg) (fun r w1 hr hg hA => by obtain ⟨⟨_, q0⟩, ⟨_, q1⟩, -⟩ := hA; have q0e : r (.tmp 91) = v1 := q0; have q1e : r (.tmp 90) = .bool false := q1; exact ⟨⟨_, q1e, rfl⟩, _, by simp [go_sem, hr.func, q0e], bytes_row _ _ _ _ (V3.out.grows (hg0.trans hg)) L1.out L2.out L3.out L4.out⟩) ?_
      refine tab_val (.slice a n cap) (fun r w1 hr hg hA => by obtain ⟨q0, ⟨_, q1⟩, -⟩ := hA; have q0e : r (.tmp 0) = .slice a n cap := q0; have q1e : r (.tmp 90) = .bool false := q1; exact ⟨⟨_, q1e, rfl⟩, by simp [go_sem, q0e]⟩) ?_
      refine tab_callP (v := .bool true) (fun r w1 hr hg hA => by obtain ⟨⟨_, q0⟩, ⟨_, q1⟩, ⟨_, q2⟩, -⟩ := hA; have q1e : r (.tmp 93) = .slice a n cap := q1; have q2e : r (.tmp 90) = .bool false := q2; exact ⟨⟨_, q2e, rfl⟩, _, by simp [go_sem, hr.func, q1e], Same_yes _ _ l _ q0 (Q1.out _ (Gx.out.trans (hg0.trans hg)))⟩) ?_
      refine tab_val (.bool true) (fun r w1 hr hg hA => by obtain ⟨⟨_, q0⟩, ⟨_, q1⟩, ⟨_, q2⟩, -⟩ := hA; have q0e : r (.tmp 90) = .bool false := q0; have q1e : r (.tmp 94) = .bool true := q1; have q2e : r (.tmp 87) = .bool true := q2; exact ⟨⟨_, q2e, rfl⟩, by simp [go_sem, q0e, q1e]⟩) ?_
      refine tab_val (.bool true) (fun r w1 hr hg hA => by obtain ⟨⟨_, q0⟩, ⟨_, q1⟩, -⟩ := hA; have q0e : r (.tmp 87) = .bool true := q0; have q1e : r (.tmp 95) = .bool true := q1; exact ⟨rfl, by simp [go_sem, q0e, q1e]⟩) ?_
      refine tab_end ?_
      simp only [List.reverse_cons, List.reverse_nil, List.nil_append, List.cons_append, Out, BlockP, forall_eq, forall_const, Act.put, List.setIfInBounds_toArray, List.set_cons_succ, List.set_cons_zero]
      intro wA hgA
      have GA := Lib.hid (Gx.out.trans (hg0.trans hgA))
      clear hg0 hgA hg0' hw0
      intros
      go_wp2
      go_ret
      exact ⟨rfl, GA.out⟩
    · refine wp_region_tab 24 (by kernel_rfl) (by kernel_rfl) ?_
      intro w0 hw0 hg0 hg0'
      simp only [List.take_succ_cons, List.take_zero, List.drop_succ_cons, List.drop_zero]
      refine tab_call (v := .bool true) (fun w1 hg => kn_any w1) (fun r w1 hr hg hA => by exact ⟨rfl, by simp [go_sem, hr.func]⟩) ?_
      refine tab_val (.bool true) (fun r w1 hr hg hA => by obtain ⟨⟨_, q0⟩, -⟩ := hA; have q0e : r (.tmp 73) = .bool true := q0; exact ⟨rfl, by simp [go_sem, q0e]⟩) ?_
      refine tab_val (.int .i64 ((rd l).2.2 : Int)) (fun r w1 hr hg hA => by obtain ⟨q0, ⟨_, q1⟩, -⟩ := hA; have q0e : r (.tmp 5) = .int .i64 ((rd l).2.2 : Int) := q0; have q1e : r (.tmp 74) = .bool true := q1; exact ⟨⟨_, q1e, rfl⟩, by simp [go_sem, q0e]⟩) ?_
      refine tab_val (.bool true) (fun r w1 hr hg hA => by obtain ⟨⟨_, q0⟩, ⟨_, q1⟩, -⟩ := hA; have q0e : r (.tmp 75) = .int .i64 ((rd l).2.2 : Int) := q0; have q1e : r (.tmp 74) = .bool true := q1; exact ⟨⟨_, q1e, rfl⟩, by simp [go_sem, hr.const, q0e, he]⟩) ?_
      refine tab_val (.bool true) (fun r w1 hr hg hA => by obtain ⟨⟨_, q0⟩, ⟨_, q1⟩, -⟩ := hA; have q0e : r (.tmp 76) = .bool true := q0; have q1e : r (.tmp 74) = .bool true := q1; exact ⟨⟨_, q1e, rfl⟩, by simp [go_sem, q0e]⟩) ?_
      refine tab_skip (fun r w1 hr hg hA => by obtain ⟨q0, ⟨_, q1⟩, -⟩ := hA; have q0e : r (.tmp 3) = .int .u64 ((rd l).1 : Int) := q0; have q1e : r (.tmp 77) = .bool true := q1; exact ⟨_, q1e, rfl⟩) ?_
      refine tab_skip (fun r w1 hr hg hA => by obtain ⟨⟨_, q0⟩, ⟨_, q1⟩, -⟩ := hA; have q0e : r (.tmp 78) = undef := q0; have q1e : r (.tmp 77) = .bool true := q1; exact ⟨_, q1e, rfl⟩) ?_
      refine tab_skip (fun r w1 hr hg hA => by obtain ⟨⟨_, q0⟩, ⟨_, q1⟩, -⟩ := hA; have q0e : r (.tmp 79) = undef := q0; have q1e : r (.tmp 77) = .bool true := q1; exact ⟨_, q1e, rfl⟩) ?_
      refine tab_skip (fun r w1 hr hg hA => by obtain ⟨q0, ⟨_, q1⟩, -⟩ := hA; have q0e : r (.tmp 0) = .slice a n cap := q0; have q1e : r (.tmp 77) = .bool true := q1; exact ⟨_, q1e, rfl⟩) ?_
      refine tab_skip (fun r w1 hr hg hA => by obtain ⟨q0, ⟨_, q1⟩, -⟩ := hA; have q0e : r (.tmp 7) = .int .i64 ((rd l).2.1 : Int) := q0; have q1e : r (.tmp 77) = .bool true := q1; exact ⟨_, q1e, rfl⟩) ?_
      refine tab_skip (fun r w1 hr hg hA => by obtain ⟨⟨_, q0⟩, ⟨_, q1⟩, ⟨_, q2⟩, -⟩ := hA; have q0e : r (.tmp 81) = undef := q0; have q1e : r (.tmp 82) = undef := q1; have q2e : r (.tmp 77) = .bool true := q2; exact ⟨_, q2e, rfl⟩) ?_
      refine tab_skip (fun r w1 hr hg hA => by obtain ⟨⟨_, q0⟩, ⟨_, q1⟩, ⟨_, q2⟩, -⟩ := hA; have q0e : r (.tmp 80) = undef := q0; have q1e : r (.tmp 83) = undef := q1; have q2e : r (.tmp 77) = .bool true := q2; exact ⟨_, q2e, rfl⟩) ?_
      refine tab_val (.bool true) (fun r w1 hr hg hA => by obtain ⟨⟨_, q0⟩, ⟨_, q1⟩, ⟨_, q2⟩, -⟩ := hA; have q0e : r (.tmp 77) = .bool true := q0; have q1e : r (.tmp 84) = undef := q1; have q2e : r (.tmp 74) = .bool true := q2; exact ⟨⟨_, q2e, rfl⟩, by simp [go_sem, hr.const, q0e]⟩) ?_
      refine tab_val (.bool true) (fun r w1 hr hg hA => by obtain ⟨⟨_, q0⟩, ⟨_, q1⟩, -⟩ := hA; have q0e : r (.tmp 74) = .bool true := q0; have q1e : r (.tmp 85) = .bool true := q1; exact ⟨rfl, by simp [go_sem, q0e, q1e]⟩) ?_
      refine tab_val (.bool true) (fun r w1 hr hg hA => by obtain ⟨⟨_, q0⟩, -⟩ := hA; have q0e : r (.tmp 86) = .bool true := q0; exact ⟨rfl, by simp [go_sem, q0e]⟩) ?_
      refine tab_val (.int .i64 ((rows l).2.2 : Int)) (fun r w1 hr hg hA => by obtain ⟨q0, ⟨_, q1⟩, -⟩ := hA; have q0e : r (.tmp 11) = .int .i64 ((rows l).2.2 : Int) := q0; have q1e : r (.tmp 87) = .bool true := q1; exact ⟨⟨_, q1e, rfl⟩, by simp [go_sem, q0e]⟩) ?_
      refine tab_val (.bool true) (fun r w1 hr hg hA => by obtain ⟨⟨_, q0⟩, ⟨_, q1⟩, -⟩ := hA; have q0e : r (.tmp 88) = .int .i64 ((rows l).2.2 : Int) := q0; have q1e : r (.tmp 87) = .bool true := q1; exact ⟨⟨_, q1e, rfl⟩, by simp [go_sem, hr.const, q0e, hf]⟩) ?_
      refine tab_val (.bool true) (fun r w1 hr hg hA => by obtain ⟨⟨_, q0⟩, ⟨_, q1⟩, -⟩ := hA; have q0e : r (.tmp 89) = .bool true := q0; have q1e : r (.tmp 87) = .bool true := q1; exact ⟨⟨_, q1e, rfl⟩, by simp [go_sem, q0e]⟩) ?_
      refine tab_skip (fun r w1 hr hg hA => by obtain ⟨q0, ⟨_, q1⟩, -⟩ := hA; have q0e : r (.tmp 9) = v1 := q0; have q1e : r (.tmp 90) = .bool true := q1; exact ⟨_, q1e, rfl⟩) ?_
      refine tab_skip (fun r w1 hr hg hA => by obtain ⟨⟨_, q0⟩, ⟨_, q1⟩, -⟩ := hA; have q0e : r (.tmp 91) = undef := q0; have q1e : r (.tmp 90) = .bool true := q1; exact ⟨_, q1e, rfl⟩) ?_
      refine tab_skip (fun r w1 hr hg hA => by obtain ⟨q0, ⟨_, q1⟩, -⟩ := hA; have q0e : r (.tmp 0) = .slice a n cap := q0; have q1e : r (.tmp 90) = .bool true := q1; exact ⟨_, q1e, rfl⟩) ?_
      refine tab_skip (fun r w1 hr hg hA => by obtain ⟨⟨_, q0⟩, ⟨_, q1⟩, ⟨_, q2⟩, -⟩ := hA; have q0e : r (.tmp 92) = undef := q0; have q1e : r (.tmp 93) = undef := q1; have q2e : r (.tmp 90) = .bool true := q2; exact ⟨_, q2e, rfl⟩) ?_
      refine tab_val (.bool true) (fun r w1 hr hg hA => by obtain ⟨⟨_, q0⟩, ⟨_, q1⟩, ⟨_, q2⟩, -⟩ := hA; have q0e : r (.tmp 90) = .bool true := q0; have q1e : r (.tmp 94) = undef := q1; have q2e : r (.tmp 87) = .bool true := q2; exact ⟨⟨_, q2e, rfl⟩, by simp [go_sem, hr.const, q0e]⟩) ?_
      refine tab_val (.bool true) (fun r w1 hr hg hA => by obtain ⟨⟨_, q0⟩, ⟨_, q1⟩, -⟩ := hA; have q0e : r (.tmp 87) = .bool true := q0; have q1e : r (.tmp 95) = .bool true := q1; exact ⟨rfl, by simp [go_sem, q0e, q1e]⟩) ?_
      refine tab_end ?_
      simp only [List.reverse_cons, List.reverse_nil, List.nil_append, List.cons_append, Out, BlockP, forall_eq, forall_const, Act.put, List.setIfInBounds_toArray, List.set_cons_succ, List.set_cons_zero]
      intro wA hgA
      have GA := Lib.hid (Gx.out.trans (hg0.trans hgA))
      clear hg0 hgA hg0' hw0
      intros
      go_wp2
      go_ret
      exact ⟨rfl, GA.out⟩

set_option maxRecDepth 100000 in
set_option maxHeartbeats 4000000 in
theorem law_readsB (l : List Nat) (a : Option Addr) (n cap : Nat) (w : World) (hn : ¬ (n : Int) ≤ 200) (hnc : n ≤ cap) (hcap : cap ≤ 9223372036854775807) (Hn : Hid (l.length = 200)) (hx : Hid (∀ x ∈ l, x < 256))
    (hp : Hid (NumsAt .u8 w (.slice a 200 cap) l)) :
    Calls Try.prog 4 #[.slice a n cap] w (Ret (.bool true) w) := by
  have hle : l.length ≤ 1000 := by rw [Hn.out]; omega
  have HLe := Lib.hid hle
  clear hle
  have Lt := Lib.hid (rd_lt l hx.out)
  have L1 : Hid ((rows l).1.length ≤ 1000) := Lib.hid (by have := (rows_facts l hx.out).1; have := HLe.out; omega)
  have L2 := Lib.hid (rows_facts l hx.out).2
  have Q1 : Hid (∀ w', Grows w w' → NumsAt .u8 w' (.slice a 200 cap) l) := Lib.hid fun w' hg => hp.out.grows hg
  have PE : Hid ((rd l).2.2 = 0 → ((rd l).2.1 ≤ 200 ∧ ∀ w', Grows w w' → NumsAt .u8 w' (.slice a (rd l).2.1 cap) (enc (rd l).1))) := Lib.hid fun he => by
    have h1 := (rd_size l he).2
    rw [Hn.out] at h1
    refine ⟨h1, fun w' hg => ?_⟩
    rw [rd_enc l hx.out he]
    exact NumsAt.take (hp.out.grows hg) h1
  go_enter Try.func4, Try.ntmps4
  go_wp2_with fail
  refine (read_any _ l _ hp.out hx.out).mono ?_
  rintro _ w1 ⟨rfl, hg⟩
  have G1 := Lib.hid hg
  clear hg
  go_wp2_with fail
  refine (rread_any _ l _ (hp.out.grows G1.out) hx.out).mono ?_
  rintro _ w2 ⟨rfl, hg⟩
  have G2 := Lib.hid (G1.out.trans hg)
  clear hg G1
  go_wp2_with fail
  refine (row_any _ l _ (hp.out.grows G2.out) hx.out HLe.out).mono ?_
  rintro _ w3 ⟨v1, rfl, hv1, hg⟩
  have V1 := Lib.hid hv1
  have G3 := Lib.hid (G2.out.trans hg)
  clear hg G2 hv1
  go_wp2_with fail
  refine (rrow_any _ l _ (hp.out.grows G3.out) hx.out HLe.out).mono ?_
  rintro _ w4 ⟨v2, rfl, hv2, hg⟩
  have V1' := Lib.hid (V1.out.grows hg)
  have V2 := Lib.hid hv2
  have G4 := Lib.hid (G3.out.trans hg)
  clear hg G3 hv2 V1
  go_wp2_with fail
  refine (same_any v1 v2 (rows l).1 (rows l).1 _ V1'.out V2.out).mono ?_
  rw [show decide ((rows l).1 = (rows l).1) = true by simp]
  rintro _ w5 ⟨rfl, hg⟩
  have V3 := Lib.hid (V1'.out.grows hg)
  have Gx := Lib.hid (G4.out.trans hg)
  clear hg G4 V1' V2 hp
  go_wp2_with fail
  by_cases he : (rd l).2.2 = 0
  · obtain ⟨hk, hP⟩ := PE.out he
    have K1 : Hid ((rd l).2.1 ≤ cap) := Lib.hid (by have := hnc; omega)
    have P1 := Lib.hid hP
    have K2 := K1
    by_cases hf : (rows l).2.2 = 0
    · have L3 := Lib.hid (rows_enc l hx.out hf)
      have L4 : Hid (l.length ≤ 17592186044416) := Lib.hid (by have := HLe.out; omega)
      refine wp_region_tab 24 (by kernel_rfl) (by kernel_rfl) ?_
      intro w0 hw0 hg0 hg0'
      simp only [List.take_succ_cons, List.take_zero, List.drop_succ_cons, List.drop_zero]
      refine tab_call (v := .bool true) (fun w1 hg => kn_any w1) (fun r w1 hr hg hA => by exact ⟨rfl, by simp [go_sem, hr.func]⟩) ?_
      refine tab_val (.bool true) (fun r w1 hr hg hA => by obtain ⟨⟨_, q0⟩, -⟩ := hA; have q0e : r (.tmp 73) = .bool true := q0; exact ⟨rfl, by simp [go_sem, q0e]⟩) ?_
      refine tab_val (.int .i64 ((rd l).2.2 : Int)) (fun r w1 hr hg hA => by obtain ⟨q0, ⟨_, q1⟩, -⟩ := hA; have q0e : r (.tmp 5) = .int .i64 ((rd l).2.2 : Int) := q0; have q1e : r (.tmp 74) = .bool true := q1; exact ⟨⟨_, q1e, rfl⟩, by simp [go_sem, q0e]⟩) ?_
      refine tab_val (.bool false) (fun r w1 hr hg hA => by obtain ⟨⟨_, q0⟩, ⟨_, q1⟩, -⟩ := hA; have q0e : r (.tmp 75) = .int .i64 ((rd l).2.2 : Int) := q0; have q1e : r (.tmp 74) = .bool true := q1; exact ⟨⟨_, q1e, rfl⟩, by simp [go_sem, hr.const, q0e, he]⟩) ?_
      refine tab_val (.bool false) (fun r w1 hr hg hA => by obtain ⟨⟨_, q0⟩, ⟨_, q1⟩, -⟩ := hA; have q0e : r (.tmp 76) = .bool false := q0; have q1e : r (.tmp 74) = .bool true := q1; exact ⟨⟨_, q1e, rfl⟩, by simp [go_sem, q0e]⟩) ?_
      refine tab_val (.int .u64 ((rd l).1 : Int)) (fun r w1 hr hg hA => by obtain ⟨q0, ⟨_, q1⟩, -⟩ := hA; have q0e : r (.tmp 3) = .int .u64 ((rd l).1 : Int) := q0; have q1e : r (.tmp 77) = .bool false := q1; exact ⟨⟨_, q1e, rfl⟩, by simp [go_sem, q0e]⟩) ?_
      refine tab_new (.cells #[.int .u64 ((rd l).1 : Int)] 23 (0, 0)) (fun b => .slice (some ⟨b, 0, none⟩) 1 1) (fun r w1 hr hg hA => by obtain ⟨⟨_, q0⟩, ⟨_, q1⟩, -⟩ := hA; have q0e : r (.tmp 78) = .int .u64 ((rd l).1 : Int) := q0; have q1e : r (.tmp 77) = .bool false := q1; exact ⟨⟨_, q1e, rfl⟩, by simp [go_sem, q0e]⟩) ?_
      refine tab_callQ (fun v w2 => NumsAt .u8 w2 v (enc (rd l).1)) (fun v w w2 h hg => NumsAt.grows h hg) (fun r w1 hr hg hA => by obtain ⟨⟨b0, q0, k0⟩, ⟨_, q1⟩, -⟩ := hA; have q0e : r (.tmp 79) = .slice (some ⟨b0, 0, none⟩) 1 1 := q0; have k0e : w1.heap[b0]? = some (.cells #[.int .u64 ((rd l).1 : Int)] 23 (0, 0)) := k0; have q1e : r (.tmp 77) = .bool false := q1; exact ⟨⟨_, q1e, rfl⟩, _, by simp [go_sem, hr.func, q0e], bytes_one _ (rd l).1 _ k0e Lt.out⟩) ?_
      refine tab_val (.slice a 200 cap) (fun r w1 hr hg hA => by obtain ⟨q0, ⟨_, q1⟩, -⟩ := hA; have q0e : r (.tmp 0) = .slice a 200 cap := q0; have q1e : r (.tmp 77) = .bool false := q1; exact ⟨⟨_, q1e, rfl⟩, by simp [go_sem, q0e]⟩) ?_
      refine tab_val (.int .i64 ((rd l).2.1 : Int)) (fun r w1 hr hg hA => by obtain ⟨q0, ⟨_, q1⟩, -⟩ := hA; have q0e : r (.tmp 7) = .int .i64 ((rd l).2.1 : Int) := q0; have q1e : r (.tmp 77) = .bool false := q1; exact ⟨⟨_, q1e, rfl⟩, by simp [go_sem, q0e]⟩) ?_
      refine tab_val (.slice a (rd l).2.1 cap) (fun r w1 hr hg hA => by obtain ⟨⟨_, q0⟩, ⟨_, q1⟩, ⟨_, q2⟩, -⟩ := hA; have q0e : r (.tmp 81) = .slice a 200 cap := q0; have q1e : r (.tmp 82) = .int .i64 ((rd l).2.1 : Int) := q1; have q2e : r (.tmp 77) = .bool false := q2; exact ⟨⟨_, q2e, rfl⟩, by simp [go_sem, q0e, q1e, K1.out, K2.out]⟩) ?_
      refine tab_callP (v := .bool true) (fun r w1 hr hg hA => by obtain ⟨⟨_, q0⟩, ⟨_, q1⟩, ⟨_, q2⟩, -⟩ := hA; have q1e : r (.tmp 83) = .slice a (rd l).2.1 cap := q1; have q2e : r (.tmp 77) = .bool false := q2; exact ⟨⟨_, q2e, rfl⟩, _, by simp [go_sem, hr.func, q1e], Same_yes _ _ (enc (rd l).1) _ q0 (P1.out _ (Gx.out.trans (hg0.trans hg)))⟩) ?_
      refine tab_val (.bool true) (fun r w1 hr hg hA => by obtain ⟨⟨_, q0⟩, ⟨_, q1⟩, ⟨_, q2⟩, -⟩ := hA; have q0e : r (.tmp 77) = .bool false := q0; have q1e : r (.tmp 84) = .bool true := q1; have q2e : r (.tmp 74) = .bool true := q2; exact ⟨⟨_, q2e, rfl⟩, by simp [go_sem, q0e, q1e]⟩) ?_
      refine tab_val (.bool true) (fun r w1 hr hg hA => by obtain ⟨⟨_, q0⟩, ⟨_, q1⟩, -⟩ := hA; have q0e : r (.tmp 74) = .bool true := q0; have q1e : r (.tmp 85) = .bool true := q1; exact ⟨rfl, by simp [go_sem, q0e, q1e]⟩) ?_
      refine tab_val (.bool true) (fun r w1 hr hg hA => by obtain ⟨⟨_, q0⟩, -⟩ := hA; have q0e : r (.tmp 86) = .bool true := q0; exact ⟨rfl, by simp [go_sem, q0e]⟩) ?_
      refine tab_val (.int .i64 ((rows l).2.2 : Int)) (fun r w1 hr hg hA => by obtain ⟨q0, ⟨_, q1⟩, -⟩ := hA; have q0e : r (.tmp 11) = .int .i64 ((rows l).2.2 : Int) := q0; have q1e : r (.tmp 87) = .bool true := q1; exact ⟨⟨_, q1e, rfl⟩, by simp [go_sem, q0e]⟩) ?_
      refine tab_val (.bool false) (fun r w1 hr hg hA => by obtain ⟨⟨_, q0⟩, ⟨_, q1⟩, -⟩ := hA; have q0e : r (.tmp 88) = .int .i64 ((rows l).2.2 : Int) := q0; have q1e : r (.tmp 87) = .bool true := q1; exact ⟨⟨_, q1e, rfl⟩, by simp [go_sem, hr.const, q0e, hf]⟩) ?_
      refine tab_val (.bool false) (fun r w1 hr hg hA => by obtain ⟨⟨_, q0⟩, ⟨_, q1⟩, -⟩ := hA; have q0e : r (.tmp 89) = .bool false := q0; have q1e : r (.tmp 87) = .bool true := q1; exact ⟨⟨_, q1e, rfl⟩, by simp [go_sem, q0e]⟩) ?_
      refine tab_val (v1) (fun r w1 hr hg hA => by obtain ⟨q0, ⟨_, q1⟩, -⟩ := hA; have q0e : r (.tmp 9) = v1 := q0; have q1e : r (.tmp 90) = .bool false := q1; exact ⟨⟨_, q1e, rfl⟩, by simp [go_sem, q0e]⟩) ?_
      refine tab_callQ (fun v w2 => NumsAt .u8 w2 v l) (fun v w w2 h hg => NumsAt.grows h hg) (fun r w1 hr hg hA => by obtain ⟨⟨_, q0⟩, ⟨_, q1⟩, -⟩ := hA; have q0e : r (.tmp 91) = v1 := q0; have q1e : r (.tmp 90) = .bool false := q1; exact ⟨⟨_, q1e, rfl⟩, _, by simp [go_sem, hr.func, q0e], bytes_row _ _ _ _ (V3.out.grows (hg0.trans hg)) L1.out L2.out L3.out L4.out⟩) ?_
      refine tab_val (.slice a 200 cap) (fun r w1 hr hg hA => by obtain ⟨q0, ⟨_, q1⟩, -⟩ := hA; have q0e : r (.tmp 0) = .slice a 200 cap := q0; have q1e : r (.tmp 90) = .bool false := q1; exact ⟨⟨_, q1e, rfl⟩, by simp [go_sem, q0e]⟩) ?_
      refine tab_callP (v := .bool true) (fun r w1 hr hg hA => by obtain ⟨⟨_, q0⟩, ⟨_, q1⟩, ⟨_, q2⟩, -⟩ := hA; have q1e : r (.tmp 93) = .slice a 200 cap := q1; have q2e : r (.tmp 90) = .bool false := q2; exact ⟨⟨_, q2e, rfl⟩, _, by simp [go_sem, hr.func, q1e], Same_yes _ _ l _ q0 (Q1.out _ (Gx.out.trans (hg0.trans hg)))⟩) ?_
      refine tab_val (.bool true) (fun r w1 hr hg hA => by obtain ⟨⟨_, q0⟩, ⟨_, q1⟩, ⟨_, q2⟩, -⟩ := hA; have q0e : r (.tmp 90) = .bool false := q0; have q1e : r (.tmp 94) = .bool true := q1; have q2e : r (.tmp 87) = .bool true := q2; exact ⟨⟨_, q2e, rfl⟩, by simp [go_sem, q0e, q1e]⟩) ?_
      refine tab_val (.bool true) (fun r w1 hr hg hA => by obtain ⟨⟨_, q0⟩, ⟨_, q1⟩, -⟩ := hA; have q0e : r (.tmp 87) = .bool true := q0; have q1e : r (.tmp 95) = .bool true := q1; exact ⟨rfl, by simp [go_sem, q0e, q1e]⟩) ?_
      refine tab_end ?_
      simp only [List.reverse_cons, List.reverse_nil, List.nil_append, List.cons_append, Out, BlockP, forall_eq, forall_const, Act.put, List.setIfInBounds_toArray, List.set_cons_succ, List.set_cons_zero]
      intro wA hgA
      have GA := Lib.hid (Gx.out.trans (hg0.trans hgA))
      clear hg0 hgA hg0' hw0
      intros
      go_wp2
      go_ret
      exact ⟨rfl, GA.out⟩
    · refine wp_region_tab 24 (by kernel_rfl) (by kernel_rfl) ?_
      intro w0 hw0 hg0 hg0'
      simp only [List.take_succ_cons, List.take_zero, List.drop_succ_cons, List.drop_zero]
      refine tab_call (v := .bool true) (fun w1 hg => kn_any w1) (fun r w1 hr hg hA => by exact ⟨rfl, by simp [go_sem, hr.func]⟩) ?_
      refine tab_val (.bool true) (fun r w1 hr hg hA => by obtain ⟨⟨_, q0⟩, -⟩ := hA; have q0e : r (.tmp 73) = .bool true := q0; exact ⟨rfl, by simp [go_sem, q0e]⟩) ?_
      refine tab_val (.int .i64 ((rd l).2.2 : Int)) (fun r w1 hr hg hA => by obtain ⟨q0, ⟨_, q1⟩, -⟩ := hA; have q0e : r (.tmp 5) = .int .i64 ((rd l).2.2 : Int) := q0; have q1e : r (.tmp 74) = .bool true := q1; exact ⟨⟨_, q1e, rfl⟩, by simp [go_sem, q0e]⟩) ?_
      refine tab_val (.bool false) (fun r w1 hr hg hA => by obtain ⟨⟨_, q0⟩, ⟨_, q1⟩, -⟩ := hA; have q0e : r (.tmp 75) = .int .i64 ((rd l).2.2 : Int) := q0; have q1e : r (.tmp 74) = .bool true := q1; exact ⟨⟨_, q1e, rfl⟩, by simp [go_sem, hr.const, q0e, he]⟩) ?_
      refine tab_val (.bool false) (fun r w1 hr hg hA => by obtain ⟨⟨_, q0⟩, ⟨_, q1⟩, -⟩ := hA; have q0e : r (.tmp 76) = .bool false := q0; have q1e : r (.tmp 74) = .bool true := q1; exact ⟨⟨_, q1e, rfl⟩, by simp [go_sem, q0e]⟩) ?_
      refine tab_val (.int .u64 ((rd l).1 : Int)) (fun r w1 hr hg hA => by obtain ⟨q0, ⟨_, q1⟩, -⟩ := hA; have q0e : r (.tmp 3) = .int .u64 ((rd l).1 : Int) := q0; have q1e : r (.tmp 77) = .bool false := q1; exact ⟨⟨_, q1e, rfl⟩, by simp [go_sem, q0e]⟩) ?_
      refine tab_new (.cells #[.int .u64 ((rd l).1 : Int)] 23 (0, 0)) (fun b => .slice (some ⟨b, 0, none⟩) 1 1) (fun r w1 hr hg hA => by obtain ⟨⟨_, q0⟩, ⟨_, q1⟩, -⟩ := hA; have q0e : r (.tmp 78) = .int .u64 ((rd l).1 : Int) := q0; have q1e : r (.tmp 77) = .bool false := q1; exact ⟨⟨_, q1e, rfl⟩, by simp [go_sem, q0e]⟩) ?_
      refine tab_callQ (fun v w2 => NumsAt .u8 w2 v (enc (rd l).1)) (fun v w w2 h hg => NumsAt.grows h hg) (fun r w1 hr hg hA => by obtain ⟨⟨b0, q0, k0⟩, ⟨_, q1⟩, -⟩ := hA; have q0e : r (.tmp 79) = .slice (some ⟨b0, 0, none⟩) 1 1 := q0; have k0e : w1.heap[b0]? = some (.cells #[.int .u64 ((rd l).1 : Int)] 23 (0, 0)) := k0; have q1e : r (.tmp 77) = .bool false := q1; exact ⟨⟨_, q1e, rfl⟩, _, by simp [go_sem, hr.func, q0e], bytes_one _ (rd l).1 _ k0e Lt.out⟩) ?_
      refine tab_val (.slice a 200 cap) (fun r w1 hr hg hA => by obtain ⟨q0, ⟨_, q1⟩, -⟩ := hA; have q0e : r (.tmp 0) = .slice a 200 cap := q0; have q1e : r (.tmp 77) = .bool false := q1; exact ⟨⟨_, q1e, rfl⟩, by simp [go_sem, q0e]⟩) ?_
      refine tab_val (.int .i64 ((rd l).2.1 : Int)) (fun r w1 hr hg hA => by obtain ⟨q0, ⟨_, q1⟩, -⟩ := hA; have q0e : r (.tmp 7) = .int .i64 ((rd l).2.1 : Int) := q0; have q1e : r (.tmp 77) = .bool false := q1; exact ⟨⟨_, q1e, rfl⟩, by simp [go_sem, q0e]⟩) ?_
      refine tab_val (.slice a (rd l).2.1 cap) (fun r w1 hr hg hA => by obtain ⟨⟨_, q0⟩, ⟨_, q1⟩, ⟨_, q2⟩, -⟩ := hA; have q0e : r (.tmp 81) = .slice a 200 cap := q0; have q1e : r (.tmp 82) = .int .i64 ((rd l).2.1 : Int) := q1; have q2e : r (.tmp 77) = .bool false := q2; exact ⟨⟨_, q2e, rfl⟩, by simp [go_sem, q0e, q1e, K1.out, K2.out]⟩) ?_
      refine tab_callP (v := .bool true) (fun r w1 hr hg hA => by obtain ⟨⟨_, q0⟩, ⟨_, q1⟩, ⟨_, q2⟩, -⟩ := hA; have q1e : r (.tmp 83) = .slice a (rd l).2.1 cap := q1; have q2e : r (.tmp 77) = .bool false := q2; exact ⟨⟨_, q2e, rfl⟩, _, by simp [go_sem, hr.func, q1e], Same_yes _ _ (enc (rd l).1) _ q0 (P1.out _ (Gx.out.trans (hg0.trans hg)))⟩) ?_
      refine tab_val (.bool true) (fun r w1 hr hg hA => by obtain ⟨⟨_, q0⟩, ⟨_, q1⟩, ⟨_, q2⟩, -⟩ := hA; have q0e : r (.tmp 77) = .bool false := q0; have q1e : r (.tmp 84) = .bool true := q1; have q2e : r (.tmp 74) = .bool true := q2; exact ⟨⟨_, q2e, rfl⟩, by simp [go_sem, q0e, q1e]⟩) ?_
      refine tab_val (.bool true) (fun r w1 hr hg hA => by obtain ⟨⟨_, q0⟩, ⟨_, q1⟩, -⟩ := hA; have q0e : r (.tmp 74) = .bool true := q0; have q1e : r (.tmp 85) = .bool true := q1; exact ⟨rfl, by simp [go_sem, q0e, q1e]⟩) ?_
      refine tab_val (.bool true) (fun r w1 hr hg hA => by obtain ⟨⟨_, q0⟩, -⟩ := hA; have q0e : r (.tmp 86) = .bool true := q0; exact ⟨rfl, by simp [go_sem, q0e]⟩) ?_
      refine tab_val (.int .i64 ((rows l).2.2 : Int)) (fun r w1 hr hg hA => by obtain ⟨q0, ⟨_, q1⟩, -⟩ := hA; have q0e : r (.tmp 11) = .int .i64 ((rows l).2.2 : Int) := q0; have q1e : r (.tmp 87) = .bool true := q1; exact ⟨⟨_, q1e, rfl⟩, by simp [go_sem, q0e]⟩) ?_
      refine tab_val (.bool true) (fun r w1 hr hg hA => by obtain ⟨⟨_, q0⟩, ⟨_, q1⟩, -⟩ := hA; have q0e : r (.tmp 88) = .int .i64 ((rows l).2.2 : Int) := q0; have q1e : r (.tmp 87) = .bool true := q1; exact ⟨⟨_, q1e, rfl⟩, by simp [go_sem, hr.const, q0e, hf]⟩) ?_
      refine tab_val (.bool true) (fun r w1 hr hg hA => by obtain ⟨⟨_, q0⟩, ⟨_, q1⟩, -⟩ := hA; have q0e : r (.tmp 89) = .bool true := q0; have q1e : r (.tmp 87) = .bool true := q1; exact ⟨⟨_, q1e, rfl⟩, by simp [go_sem, q0e]⟩) ?_
      refine tab_skip (fun r w1 hr hg hA => by obtain ⟨q0, ⟨_, q1⟩, -⟩ := hA; have q0e : r (.tmp 9) = v1 := q0; have q1e : r (.tmp 90) = .bool true := q1; exact ⟨_, q1e, rfl⟩) ?_
      refine tab_skip (fun r w1 hr hg hA => by obtain ⟨⟨_, q0⟩, ⟨_, q1⟩, -⟩ := hA; have q0e : r (.tmp 91) = undef := q0; have q1e : r (.tmp 90) = .bool true := q1; exact ⟨_, q1e, rfl⟩) ?_
      refine tab_skip (fun r w1 hr hg hA => by obtain ⟨q0, ⟨_, q1⟩, -⟩ := hA; have q0e : r (.tmp 0) = .slice a 200 cap := q0; have q1e : r (.tmp 90) = .bool true := q1; exact ⟨_, q1e, rfl⟩) ?_
      refine tab_skip (fun r w1 hr hg hA => by obtain ⟨⟨_, q0⟩, ⟨_, q1⟩, ⟨_, q2⟩, -⟩ := hA; have q0e : r (.tmp 92) = undef := q0; have q1e : r (.tmp 93) = undef := q1; have q2e : r (.tmp 90) = .bool true := q2; exact ⟨_, q2e, rfl⟩) ?_
      refine tab_val (.bool true) (fun r w1 hr hg hA => by obtain ⟨⟨_, q0⟩, ⟨_, q1⟩, ⟨_, q2⟩, -⟩ := hA; have q0e : r (.tmp 90) = .bool true := q0; have q1e : r (.tmp 94) = undef := q1; have q2e : r (.tmp 87) = .bool true := q2; exact ⟨⟨_, q2e, rfl⟩, by simp [go_sem, hr.const, q0e]⟩) ?_
      refine tab_val (.bool true) (fun r w1 hr hg hA => by obtain ⟨⟨_, q0⟩, ⟨_, q1⟩, -⟩ := hA; have q0e : r (.tmp 87) = .bool true := q0; have q1e : r (.tmp 95) = .bool true := q1; exact ⟨rfl, by simp [go_sem, q0e, q1e]⟩) ?_
      refine tab_end ?_
      simp only [List.reverse_cons, List.reverse_nil, List.nil_append, List.cons_append, Out, BlockP, forall_eq, forall_const, Act.put, List.setIfInBounds_toArray, List.set_cons_succ, List.set_cons_zero]
      intro wA hgA
      have GA := Lib.hid (Gx.out.trans (hg0.trans hgA))
      clear hg0 hgA hg0' hw0
      intros
      go_wp2
      go_ret
      exact ⟨rfl, GA.out⟩
  · by_cases hf : (rows l).2.2 = 0
    · have L3 := Lib.hid (rows_enc l hx.out hf)
      have L4 : Hid (l.length ≤ 17592186044416) := Lib.hid (by have := HLe.out; omega)
      refine wp_region_tab 24 (by kernel_rfl) (by kernel_rfl) ?_
      intro w0 hw0 hg0 hg0'
      simp only [List.take_succ_cons, List.take_zero, List.drop_succ_cons, List.drop_zero]
      refine tab_call (v := .bool true) (fun w1 hg => kn_any w1) (fun r w1 hr hg hA => by exact ⟨rfl, by simp [go_sem, hr.func]⟩) ?_
      refine tab_val (.bool true) (fun r w1 hr hg hA => by obtain ⟨⟨_, q0⟩, -⟩ := hA; have q0e : r (.tmp 73) = .bool true := q0; exact ⟨rfl, by simp [go_sem, q0e]⟩) ?_
      refine tab_val (.int .i64 ((rd l).2.2 : Int)) (fun r w1 hr hg hA => by obtain ⟨q0, ⟨_, q1⟩, -⟩ := hA; have q0e : r (.tmp 5) = .int .i64 ((rd l).2.2 : Int) := q0; have q1e : r (.tmp 74) = .bool true := q1; exact ⟨⟨_, q1e, rfl⟩, by simp [go_sem, q0e]⟩) ?_
      refine tab_val (.bool true) (fun r w1 hr hg hA => by obtain ⟨⟨_, q0⟩, ⟨_, q1⟩, -⟩ := hA; have q0e : r (.tmp 75) = .int .i64 ((rd l).2.2 : Int) := q0; have q1e : r (.tmp 74) = .bool true := q1; exact ⟨⟨_, q1e, rfl⟩, by simp [go_sem, hr.const, q0e, he]⟩) ?_
      refine tab_val (.bool true) (fun r w1 hr hg hA => by obtain ⟨⟨_, q0⟩, ⟨_, q1⟩, -⟩ := hA; have q0e : r (.tmp 76) = .bool true := q0; have q1e : r (.tmp 74) = .bool true := q1; exact ⟨⟨_, q1e, rfl⟩, by simp [go_sem, q0e]⟩) ?_
      refine tab_skip (fun r w1 hr hg hA => by obtain ⟨q0, ⟨_, q1⟩, -⟩ := hA; have q0e : r (.tmp 3) = .int .u64 ((rd l).1 : Int) := q0; have q1e : r (.tmp 77) = .bool true := q1; exact ⟨_, q1e, rfl⟩) ?_
      refine tab_skip (fun r w1 hr hg hA => by obtain ⟨⟨_, q0⟩, ⟨_, q1⟩, -⟩ := hA; have q0e : r (.tmp 78) = undef := q0; have q1e : r (.tmp 77) = .bool true := q1; exact ⟨_, q1e, rfl⟩) ?_
      refine tab_skip (fun r w1 hr hg hA => by obtain ⟨⟨_, q0⟩, ⟨_, q1⟩, -⟩ := hA; have q0e : r (.tmp 79) = undef := q0; have q1e : r (.tmp 77) = .bool true := q1; exact ⟨_, q1e, rfl⟩) ?_
      refine tab_skip (fun r w1 hr hg hA => by obtain ⟨q0, ⟨_, q1⟩, -⟩ := hA; have q0e : r (.tmp 0) = .slice a 200 cap := q0; have q1e : r (.tmp 77) = .bool true := q1; exact ⟨_, q1e, rfl⟩) ?_
      refine tab_skip (fun r w1 hr hg hA => by obtain ⟨q0, ⟨_, q1⟩, -⟩ := hA; have q0e : r (.tmp 7) = .int .i64 ((rd l).2.1 : Int) := q0; have q1e : r (.tmp 77) = .bool true := q1; exact ⟨_, q1e, rfl⟩) ?_
      refine tab_skip (fun r w1 hr hg hA => by obtain ⟨⟨_, q0⟩, ⟨_, q1⟩, ⟨_, q2⟩, -⟩ := hA; have q0e : r (.tmp 81) = undef := q0; have q1e : r (.tmp 82) = undef := q1; have q2e : r (.tmp 77) = .bool true := q2; exact ⟨_, q2e, rfl⟩) ?_
      refine tab_skip (fun r w1 hr hg hA => by obtain ⟨⟨_, q0⟩, ⟨_, q1⟩, ⟨_, q2⟩, -⟩ := hA; have q0e : r (.tmp 80) = undef := q0; have q1e : r (.tmp 83) = undef := q1; have q2e : r (.tmp 77) = .bool true := q2; exact ⟨_, q2e, rfl⟩) ?_
      refine tab_val (.bool true) (fun r w1 hr hg hA => by obtain ⟨⟨_, q0⟩, ⟨_, q1⟩, ⟨_, q2⟩, -⟩ := hA; have q0e : r (.tmp 77) = .bool true := q0; have q1e : r (.tmp 84) = undef := q1; have q2e : r (.tmp 74) = .bool true := q2; exact ⟨⟨_, q2e, rfl⟩, by simp [go_sem, hr.const, q0e]⟩) ?_
      refine tab_val (.bool true) (fun r w1 hr hg hA => by obtain ⟨⟨_, q0⟩, ⟨_, q1⟩, -⟩ := hA; have q0e : r (.tmp 74) = .bool true := q0; have q1e : r (.tmp 85) = .bool true := q1; exact ⟨rfl, by simp [go_sem, q0e, q1e]⟩) ?_
      refine tab_val (.bool true) (fun r w1 hr hg hA => by obtain ⟨⟨_, q0⟩, -⟩ := hA; have q0e : r (.tmp 86) = .bool true := q0; exact ⟨rfl, by simp [go_sem, q0e]⟩) ?_
      refine tab_val (.int .i64 ((rows l).2.2 : Int)) (fun r w1 hr hg hA => by obtain ⟨q0, ⟨_, q1⟩, -⟩ := hA; have q0e : r (.tmp 11) = .int .i64 ((rows l).2.2 : Int) := q0; have q1e : r (.tmp 87) = .bool true := q1; exact ⟨⟨_, q1e, rfl⟩, by simp [go_sem, q0e]⟩) ?_
      refine tab_val (.bool false) (fun r w1 hr hg hA => by obtain ⟨⟨_, q0⟩, ⟨_, q1⟩, -⟩ := hA; have q0e : r (.tmp 88) = .int .i64 ((rows l).2.2 : Int) := q0; have q1e : r (.tmp 87) = .bool true := q1; exact ⟨⟨_, q1e, rfl⟩, by simp [go_sem, hr.const, q0e, hf]⟩) ?_
      refine tab_val (.bool false) (fun r w1 hr hg hA => by obtain ⟨⟨_, q0⟩, ⟨_, q1⟩, -⟩ := hA; have q0e : r (.tmp 89) = .bool false := q0; have q1e : r (.tmp 87) = .bool true := q1; exact ⟨⟨_, q1e, rfl⟩, by simp [go_sem, q0e]⟩) ?_
      refine tab_val (v1) (fun r w1 hr hg hA => by obtain ⟨q0, ⟨_, q1⟩, -⟩ := hA; have q0e : r (.tmp 9) = v1 := q0; have q1e : r (.tmp 90) = .bool false := q1; exact ⟨⟨_, q1e, rfl⟩, by simp [go_sem, q0e]⟩) ?_
      refine tab_callQ (fun v w2 => NumsAt .u8 w2 v l) (fun v w w2 h hg => NumsAt.grows h hg) (fun r w1 hr hg hA => by obtain ⟨⟨_, q0⟩, ⟨_, q1⟩, -⟩ := hA; have q0e : r (.tmp 91) = v1 := q0; have q1e : r (.tmp 90) = .bool false := q1; exact ⟨⟨_, q1e, rfl⟩, _, by simp [go_sem, hr.func, q0e], bytes_row _ _ _ _ (V3.out.grows (hg0.trans hg)) L1.out L2.out L3.out L4.out⟩) ?_
      refine tab_val (.slice a 200 cap) (fun r w1 hr hg hA => by obtain ⟨q0, ⟨_, q1⟩, -⟩ := hA; have q0e : r (.tmp 0) = .slice a 200 cap := q0; have q1e : r (.tmp 90) = .bool false := q1; exact ⟨⟨_, q1e, rfl⟩, by simp [go_sem, q0e]⟩) ?_
      refine tab_callP (v := .bool true) (fun r w1 hr hg hA => by obtain ⟨⟨_, q0⟩, ⟨_, q1⟩, ⟨_, q2⟩, -⟩ := hA; have q1e : r (.tmp 93) = .slice a 200 cap := q1; have q2e : r (.tmp 90) = .bool false := q2; exact ⟨⟨_, q2e, rfl⟩, _, by simp [go_sem, hr.func, q1e], Same_yes _ _ l _ q0 (Q1.out _ (Gx.out.trans (hg0.trans hg)))⟩) ?_
      refine tab_val (.bool true) (fun r w1 hr hg hA => by obtain ⟨⟨_, q0⟩, ⟨_, q1⟩, ⟨_, q2⟩, -⟩ := hA; have q0e : r (.tmp 90) = .bool false := q0; have q1e : r (.tmp 94) = .bool true := q1; have q2e : r (.tmp 87) = .bool true := q2; exact ⟨⟨_, q2e, rfl⟩, by simp [go_sem, q0e, q1e]⟩) ?_
      refine tab_val (.bool true) (fun r w1 hr hg hA => by obtain ⟨⟨_, q0⟩, ⟨_, q1⟩, -⟩ := hA; have q0e : r (.tmp 87) = .bool true := q0; have q1e : r (.tmp 95) = .bool true := q1; exact ⟨rfl, by simp [go_sem, q0e, q1e]⟩) ?_
      refine tab_end ?_
      simp only [List.reverse_cons, List.reverse_nil, List.nil_append, List.cons_append, Out, BlockP, forall_eq, forall_const, Act.put, List.setIfInBounds_toArray, List.set_cons_succ, List.set_cons_zero]
      intro wA hgA
      have GA := Lib.hid (Gx.out.trans (hg0.trans hgA))
      clear hg0 hgA hg0' hw0
      intros
      go_wp2
      go_ret
      exact ⟨rfl, GA.out⟩
    · refine wp_region_tab 24 (by kernel_rfl) (by kernel_rfl) ?_
      intro w0 hw0 hg0 hg0'
      simp only [List.take_succ_cons, List.take_zero, List.drop_succ_cons, List.drop_zero]
      refine tab_call (v := .bool true) (fun w1 hg => kn_any w1) (fun r w1 hr hg hA => by exact ⟨rfl, by simp [go_sem, hr.func]⟩) ?_
      refine tab_val (.bool true) (fun r w1 hr hg hA => by obtain ⟨⟨_, q0⟩, -⟩ := hA; have q0e : r (.tmp 73) = .bool true := q0; exact ⟨rfl, by simp [go_sem, q0e]⟩) ?_
      refine tab_val (.int .i64 ((rd l).2.2 : Int)) (fun r w1 hr hg hA => by obtain ⟨q0, ⟨_, q1⟩, -⟩ := hA; have q0e : r (.tmp 5) = .int .i64 ((rd l).2.2 : Int) := q0; have q1e : r (.tmp 74) = .bool true := q1; exact ⟨⟨_, q1e, rfl⟩, by simp [go_sem, q0e]⟩) ?_
      refine tab_val (.bool true) (fun r w1 hr hg hA => by obtain ⟨⟨_, q0⟩, ⟨_, q1⟩, -⟩ := hA; have q0e : r (.tmp 75) = .int .i64 ((rd l).2.2 : Int) := q0; have q1e : r (.tmp 74) = .bool true := q1; exact ⟨⟨_, q1e, rfl⟩, by simp [go_sem, hr.const, q0e, he]⟩) ?_
      refine tab_val (.bool true) (fun r w1 hr hg hA => by obtain ⟨⟨_, q0⟩, ⟨_, q1⟩, -⟩ := hA; have q0e : r (.tmp 76) = .bool true := q0; have q1e : r (.tmp 74) = .bool true := q1; exact ⟨⟨_, q1e, rfl⟩, by simp [go_sem, q0e]⟩) ?_
      refine tab_skip (fun r w1 hr hg hA => by obtain ⟨q0, ⟨_, q1⟩, -⟩ := hA; have q0e : r (.tmp 3) = .int .u64 ((rd l).1 : Int) := q0; have q1e : r (.tmp 77) = .bool true := q1; exact ⟨_, q1e, rfl⟩) ?_
      refine tab_skip (fun r w1 hr hg hA => by obtain ⟨⟨_, q0⟩, ⟨_, q1⟩, -⟩ := hA; have q0e : r (.tmp 78) = undef := q0; have q1e : r (.tmp 77) = .bool true := q1; exact ⟨_, q1e, rfl⟩) ?_
      refine tab_skip (fun r w1 hr hg hA => by obtain ⟨⟨_, q0⟩, ⟨_, q1⟩, -⟩ := hA; have q0e : r (.tmp 79) = undef := q0; have q1e : r (.tmp 77) = .bool true := q1; exact ⟨_, q1e, rfl⟩) ?_
      refine tab_skip (fun r w1 hr hg hA => by obtain ⟨q0, ⟨_, q1⟩, -⟩ := hA; have q0e : r (.tmp 0) = .slice a 200 cap := q0; have q1e : r (.tmp 77) = .bool true := q1; exact ⟨_, q1e, rfl⟩) ?_
      refine tab_skip (fun r w1 hr hg hA => by obtain ⟨q0, ⟨_, q1⟩, -⟩ := hA; have q0e : r (.tmp 7) = .int .i64 ((rd l).2.1 : Int) := q0; have q1e : r (.tmp 77) = .bool true := q1; exact ⟨_, q1e, rfl⟩) ?_
      refine tab_skip (fun r w1 hr hg hA => by obtain ⟨⟨_, q0⟩, ⟨_, q1⟩, ⟨_, q2⟩, -⟩ := hA; have q0e : r (.tmp 81) = undef := q0; have q1e : r (.tmp 82) = undef := q1; have q2e : r (.tmp 77) = .bool true := q2; exact ⟨_, q2e, rfl⟩) ?_
      refine tab_skip (fun r w1 hr hg hA => by obtain ⟨⟨_, q0⟩, ⟨_, q1⟩, ⟨_, q2⟩, -⟩ := hA; have q0e : r (.tmp 80) = undef := q0; have q1e : r (.tmp 83) = undef := q1; have q2e : r (.tmp 77) = .bool true := q2; exact ⟨_, q2e, rfl⟩) ?_
      refine tab_val (.bool true) (fun r w1 hr hg hA => by obtain ⟨⟨_, q0⟩, ⟨_, q1⟩, ⟨_, q2⟩, -⟩ := hA; have q0e : r (.tmp 77) = .bool true := q0; have q1e : r (.tmp 84) = undef := q1; have q2e : r (.tmp 74) = .bool true := q2; exact ⟨⟨_, q2e, rfl⟩, by simp [go_sem, hr.const, q0e]⟩) ?_
      refine tab_val (.bool true) (fun r w1 hr hg hA => by obtain ⟨⟨_, q0⟩, ⟨_, q1⟩, -⟩ := hA; have q0e : r (.tmp 74) = .bool true := q0; have q1e : r (.tmp 85) = .bool true := q1; exact ⟨rfl, by simp [go_sem, q0e, q1e]⟩) ?_
      refine tab_val (.bool true) (fun r w1 hr hg hA => by obtain ⟨⟨_, q0⟩, -⟩ := hA; have q0e : r (.tmp 86) = .bool true := q0; exact ⟨rfl, by simp [go_sem, q0e]⟩) ?_
      refine tab_val (.int .i64 ((rows l).2.2 : Int)) (fun r w1 hr hg hA => by obtain ⟨q0, ⟨_, q1⟩, -⟩ := hA; have q0e : r (.tmp 11) = .int .i64 ((rows l).2.2 : Int) := q0; have q1e : r (.tmp 87) = .bool true := q1; exact ⟨⟨_, q1e, rfl⟩, by simp [go_sem, q0e]⟩) ?_
      refine tab_val (.bool true) (fun r w1 hr hg hA => by obtain ⟨⟨_, q0⟩, ⟨_, q1⟩, -⟩ := hA; have q0e : r (.tmp 88) = .int .i64 ((rows l).2.2 : Int) := q0; have q1e : r (.tmp 87) = .bool true := q1; exact ⟨⟨_, q1e, rfl⟩, by simp [go_sem, hr.const, q0e, hf]⟩) ?_
      refine tab_val (.bool true) (fun r w1 hr hg hA => by obtain ⟨⟨_, q0⟩, ⟨_, q1⟩, -⟩ := hA; have q0e : r (.tmp 89) = .bool true := q0; have q1e : r (.tmp 87) = .bool true := q1; exact ⟨⟨_, q1e, rfl⟩, by simp [go_sem, q0e]⟩) ?_
      refine tab_skip (fun r w1 hr hg hA => by obtain ⟨q0, ⟨_, q1⟩, -⟩ := hA; have q0e : r (.tmp 9) = v1 := q0; have q1e : r (.tmp 90) = .bool true := q1; exact ⟨_, q1e, rfl⟩) ?_
      refine tab_skip (fun r w1 hr hg hA => by obtain ⟨⟨_, q0⟩, ⟨_, q1⟩, -⟩ := hA; have q0e : r (.tmp 91) = undef := q0; have q1e : r (.tmp 90) = .bool true := q1; exact ⟨_, q1e, rfl⟩) ?_
      refine tab_skip (fun r w1 hr hg hA => by obtain ⟨q0, ⟨_, q1⟩, -⟩ := hA; have q0e : r (.tmp 0) = .slice a 200 cap := q0; have q1e : r (.tmp 90) = .bool true := q1; exact ⟨_, q1e, rfl⟩) ?_
      refine tab_skip (fun r w1 hr hg hA => by obtain ⟨⟨_, q0⟩, ⟨_, q1⟩, ⟨_, q2⟩, -⟩ := hA; have q0e : r (.tmp 92) = undef := q0; have q1e : r (.tmp 93) = undef := q1; have q2e : r (.tmp 90) = .bool true := q2; exact ⟨_, q2e, rfl⟩) ?_
      refine tab_val (.bool true) (fun r w1 hr hg hA => by obtain ⟨⟨_, q0⟩, ⟨_, q1⟩, ⟨_, q2⟩, -⟩ := hA; have q0e : r (.tmp 90) = .bool true := q0; have q1e : r (.tmp 94) = undef := q1; have q2e : r (.tmp 87) = .bool true := q2; exact ⟨⟨_, q2e, rfl⟩, by simp [go_sem, hr.const, q0e]⟩) ?_
      refine tab_val (.bool true) (fun r w1 hr hg hA => by obtain ⟨⟨_, q0⟩, ⟨_, q1⟩, -⟩ := hA; have q0e : r (.tmp 87) = .bool true := q0; have q1e : r (.tmp 95) = .bool true := q1; exact ⟨rfl, by simp [go_sem, q0e, q1e]⟩) ?_
      refine tab_end ?_
      simp only [List.reverse_cons, List.reverse_nil, List.nil_append, List.cons_append, Out, BlockP, forall_eq, forall_const, Act.put, List.setIfInBounds_toArray, List.set_cons_succ, List.set_cons_zero]
      intro wA hgA
      have GA := Lib.hid (Gx.out.trans (hg0.trans hgA))
      clear hg0 hgA hg0' hw0
      intros
      go_wp2
      go_ret
      exact ⟨rfl, GA.out⟩
end Go.Proofs.Ytfhdljobndamgaa
