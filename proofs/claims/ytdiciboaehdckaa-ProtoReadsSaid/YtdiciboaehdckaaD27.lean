/-
  Layer 8: the law ProtoReads.
-/
import Derived.Test.YtdiciboaehdckaaD25
import Derived.Test.YtdiciboaehdckaaD26
import Derived.Test.YtdiciboaehdckaaD18
import Derived.Test.YtdiciboaehdckaaD21
namespace Go.Proofs.Ytdiciboaehdckaa
open Go.RowKit Go.Tab Go.WideShapes

theorem allFrom_err (l : List Nat) : ∀ (f p : Nat) (acc : List Fld), (allFrom l f p acc).2.2 ≠ 0 → (allFrom l f p acc).1 = []
  | 0, p, acc, h => absurd rfl h
  | f + 1, p, acc, h => by
    unfold allFrom at h ⊢
    split
    · rename_i h1; rw [if_pos h1] at h; exact absurd rfl h
    · rename_i h1
      rw [if_neg h1] at h
      split
      · rename_i h2; rw [if_pos h2] at h; exact allFrom_err l f _ _ h
      · rfl
theorem all_facts (l : List Nat) (hx : ∀ x ∈ l, x < 256) (hl : l.length ≤ 1000) : (allF l).1.length ≤ 1000 ∧ ∀ f ∈ (allF l).1, f.Ok := by
  by_cases h : (allF l).2.2 = 0
  · obtain ⟨-, h2, h3⟩ := all_back l hx hl h
    exact ⟨by omega, fun f hf => (h3 f hf).2⟩
  · have he : (allF l).1 = [] := allFrom_err l _ _ _ h
    rw [he]
    exact ⟨by simp, fun f hf => by cases hf⟩
theorem skip_rd (l : List Nat) (hx : ∀ x ∈ l, x < 256) : (lk l).2.2.2.1 + (lk l).2.2.2.2.1 = (rdF l).2.1 ∧ (lk l).2.2.2.2.2 = (rdF l).2.2 ∧ (rdF l).2.1 ≤ l.length := by
  rcases lk_cases l hx with ⟨e, he, hk⟩ | ⟨num, kind, n, head, size, hk, hG⟩
  · unfold rdF
    rw [hk, if_pos (by simpa [bad6] using he)]
    exact ⟨rfl, rfl, Nat.zero_le _⟩
  · unfold rdF
    rw [hk, if_neg (by simp)]
    exact ⟨rfl, rfl, hG.fit⟩

set_option maxRecDepth 100000 in
set_option maxHeartbeats 4000000 in
theorem law_preads (l : List Nat) (a : Option Addr) (n cap lo : Nat) (w : World) (hlo : lo = min n 300) (hnc : n ≤ cap) (hcap : cap ≤ 9223372036854775807) (Hn : Hid (l.length = lo)) (HX : Hid (∀ x ∈ l, x < 256)) (HP : Hid (NumsAt .u8 w (.slice a lo cap) l)) : Calls Try.prog 4 #[.slice a n cap] w (Ret (.bool true) w) := by
  have m1 : (if (300 : Int) < (n : Int) then (300 : Int) else (n : Int)) = (lo : Int) := by omega
  have hb1 : lo ≤ cap := by omega
  have HLe : Hid (l.length ≤ 1000) := Lib.hid (by rw [Hn.out]; omega)
  have HFL := Lib.hid (all_facts l HX.out HLe.out)
  have HB := Lib.hid (all_back l HX.out HLe.out)
  have HAL := Lib.hid (fun w' (hg : Grows w w') => all_any _ l w' (HP.out.grows hg) HX.out (Nat.le_trans HLe.out (by decide)))
  have HRAL := Lib.hid (fun w' (hg : Grows w w') => rall_any _ l w' (HP.out.grows hg) HX.out (Nat.le_trans HLe.out (by decide)))
  have HR := Lib.hid (fun w' (hg : Grows w w') => read_field _ l w' (HP.out.grows hg) HX.out)
  have HRR := Lib.hid (fun w' (hg : Grows w w') => rread_field _ l w' (HP.out.grows hg) HX.out)
  have HS : Hid (∀ w', Grows w w' → Calls Try.prog 18 #[.slice a lo cap] w' (Ret (.tuple #[.int .i64 ((rdF l).2.1 : Int), .int .i64 ((rdF l).2.2 : Int)]) w')) := Lib.hid (fun w' (hg : Grows w w') => by
    obtain ⟨e1, e2, e3⟩ := skip_rd l HX.out
    rw [← e1, ← e2]
    exact skip_any _ l w' (HP.out.grows hg) HX.out (by have := HLe.out; omega))
  generalize rdF l = q at HR HRR HS
  obtain ⟨⟨num, kind, fn, bs⟩, s, er⟩ := q
  unfold RetRead fldV at HR
  unfold rrV at HRR
  simp only at HR HRR HS
  generalize allF l = qa at HAL HRAL HB HFL
  obtain ⟨fl, pl, eh⟩ := qa
  unfold RetAll at HAL
  unfold RetRAll at HRAL
  simp only at HAL HRAL HB HFL
  have HSM : Hid (∀ (w' : World) (v u : Value), FldsAt w' v fl → RFldsAt w' u fl → Calls Try.prog 14 #[v, u] w' (Ret (.bool true) w')) := Lib.hid (fun w' v u h1 h2 => by
    have := lsame_any v u fl fl w' h1 h2 HFL.out.1 HFL.out.1 (fun f hf => (HFL.out.2 f hf).bs) (fun f hf => (HFL.out.2 f hf).bs)
    rwa [sameF_iff.2 rfl] at this)
  clear hlo
  go_enter Try.func4, Try.ntmps4
  go_wp2_with fail
  refine (HR.out _ (Grows.refl w)).mono ?_
  rintro _ wa ⟨bv, rfl, hbv, hg, -⟩
  obtain ⟨av, cv, hsv⟩ := hbv.shape
  have HOF := Lib.hid (fun w' (hg : Grows wa w') => of_any ⟨num, kind, fn, bs⟩ bv w' (hbv.grows hg))
  unfold fldV rfV at HOF
  simp only at HOF
  generalize bs.length = ln at hsv
  subst hsv
  have G1 := Lib.hid hg
  clear hg hbv m1
  go_wp2_with fail
  refine (HRR.out _ (G1.out.al (.cells #[.int .i64 num, .int .i64 kind, .int .u64 (fn : Int), .slice av ln cv] 41))).mono ?_
  rintro _ wb ⟨rfl, hg⟩
  have X1 := Lib.hid (hg.block (heap_new wa (.cells #[.int .i64 num, .int .i64 kind, .int .u64 (fn : Int), .slice av ln cv] 41) _ rfl))
  have HOF := Lib.hid (fun w' (hh : Grows wb w') => HOF.out w' (((Grows.alloc wa (.cells #[.int .i64 num, .int .i64 kind, .int .u64 (fn : Int), .slice av ln cv] 41)).trans hg).trans hh))
  have G2 := Lib.hid ((G1.out.al (.cells #[.int .i64 num, .int .i64 kind, .int .u64 (fn : Int), .slice av ln cv] 41)).trans hg)
  generalize wa.heap.size = x1 at X1 ⊢
  clear hg G1
  go_wp2_with fail
  refine (HS.out _ (G2.out.al (.cells #[.int .i64 num, .int .i64 kind, .int .u64 (fn : Int), .string (strN bs)] 45))).mono ?_
  rintro _ wc ⟨rfl, hg⟩
  have X2 := Lib.hid (hg.block (heap_new wb (.cells #[.int .i64 num, .int .i64 kind, .int .u64 (fn : Int), .string (strN bs)] 45) _ rfl))
  have X1 := Lib.hid (hg.block ((Grows.alloc wb (.cells #[.int .i64 num, .int .i64 kind, .int .u64 (fn : Int), .string (strN bs)] 45)).block X1.out))
  have HOF := Lib.hid (fun w' (hh : Grows wc w') => HOF.out w' (((Grows.alloc wb (.cells #[.int .i64 num, .int .i64 kind, .int .u64 (fn : Int), .string (strN bs)] 45)).trans hg).trans hh))
  have G3 := Lib.hid ((G2.out.al (.cells #[.int .i64 num, .int .i64 kind, .int .u64 (fn : Int), .string (strN bs)] 45)).trans hg)
  generalize wb.heap.size = x2 at X2 ⊢
  clear hg G2
  have CF : Hid (∀ w', Grows wc w' → (w'.cell? ⟨x1, 0, none⟩ = some (.int .i64 num) ∧ w'.cell? ⟨x1, 1, none⟩ = some (.int .i64 kind) ∧ w'.cell? ⟨x1, 2, none⟩ = some (.int .u64 (fn : Int)) ∧ w'.cell? ⟨x1, 3, none⟩ = some (.slice av ln cv)) ∧
      (w'.cell? ⟨x2, 0, none⟩ = some (.int .i64 num) ∧ w'.cell? ⟨x2, 1, none⟩ = some (.int .i64 kind) ∧ w'.cell? ⟨x2, 2, none⟩ = some (.int .u64 (fn : Int)) ∧ w'.cell? ⟨x2, 3, none⟩ = some (.string (strN bs)))) := Lib.hid (fun w' hg => ⟨cells4f (hg.block X1.out), cells4f (hg.block X2.out)⟩)
  clear X1 X2
  go_wp2_with fail
  refine wp_region_tab 24 (by kernel_rfl) (by kernel_rfl) ?_
  intro w0 hw0 hg1 hg1'
  simp only [List.take_succ_cons, List.take_zero, List.drop_succ_cons, List.drop_zero]
  refine tab_val (.agg #[.int .i64 num, .int .i64 kind, .int .u64 (fn : Int), .slice av ln cv]) (fun r w1 hr hg hA => by obtain ⟨q0, -⟩ := hA; have q0e : r (.tmp 3) = .pointer (some ⟨x1, 0, none⟩) := q0; have hc := CF.out w1 (hg1.trans hg); exact ⟨rfl, by simp [go_sem, q0e, hc]⟩) ?_
  refine tab_call (v := .agg #[.int .i64 num, .int .i64 kind, .int .u64 (fn : Int), .string (strN bs)]) (fun w1 hg => HOF.out w1 (hg1.trans hg)) (fun r w1 hr hg hA => by obtain ⟨⟨_, q0⟩, -⟩ := hA; have q0e : r (.tmp 41) = .agg #[.int .i64 num, .int .i64 kind, .int .u64 (fn : Int), .slice av ln cv] := q0; exact ⟨rfl, by simp [go_sem, hr.func, q0e]⟩) ?_
  refine tab_val (.agg #[.int .i64 num, .int .i64 kind, .int .u64 (fn : Int), .string (strN bs)]) (fun r w1 hr hg hA => by obtain ⟨q0, -⟩ := hA; have q0e : r (.tmp 6) = .pointer (some ⟨x2, 0, none⟩) := q0; have hc := CF.out w1 (hg1.trans hg); exact ⟨rfl, by simp [go_sem, q0e, hc]⟩) ?_
  refine tab_val (.bool false) (fun r w1 hr hg hA => by obtain ⟨⟨_, q0⟩, ⟨_, q1⟩, -⟩ := hA; have q0e : r (.tmp 42) = .agg #[.int .i64 num, .int .i64 kind, .int .u64 (fn : Int), .string (strN bs)] := q0; have q1e : r (.tmp 43) = .agg #[.int .i64 num, .int .i64 kind, .int .u64 (fn : Int), .string (strN bs)] := q1; exact ⟨rfl, by simp [go_sem, q0e, q1e]⟩) ?_
  refine tab_val (.bool false) (fun r w1 hr hg hA => by obtain ⟨⟨_, q0⟩, -⟩ := hA; have q0e : r (.tmp 44) = .bool false := q0; exact ⟨rfl, by simp [go_sem, q0e]⟩) ?_
  refine tab_val (.int .i64 (s : Int)) (fun r w1 hr hg hA => by obtain ⟨q0, ⟨_, q1⟩, -⟩ := hA; have q0e : r (.tmp 4) = .int .i64 (s : Int) := q0; have q1e : r (.tmp 45) = .bool false := q1; exact ⟨⟨_, q1e, rfl⟩, by simp [go_sem, q0e]⟩) ?_
  refine tab_val (.int .i64 (s : Int)) (fun r w1 hr hg hA => by obtain ⟨q0, ⟨_, q1⟩, -⟩ := hA; have q0e : r (.tmp 7) = .int .i64 (s : Int) := q0; have q1e : r (.tmp 45) = .bool false := q1; exact ⟨⟨_, q1e, rfl⟩, by simp [go_sem, q0e]⟩) ?_
  refine tab_val (.bool false) (fun r w1 hr hg hA => by obtain ⟨⟨_, q0⟩, ⟨_, q1⟩, ⟨_, q2⟩, -⟩ := hA; have q0e : r (.tmp 46) = .int .i64 (s : Int) := q0; have q1e : r (.tmp 47) = .int .i64 (s : Int) := q1; have q2e : r (.tmp 45) = .bool false := q2; exact ⟨⟨_, q2e, rfl⟩, by simp [go_sem, q0e, q1e]⟩) ?_
  refine tab_val (.bool false) (fun r w1 hr hg hA => by obtain ⟨⟨_, q0⟩, ⟨_, q1⟩, -⟩ := hA; have q0e : r (.tmp 45) = .bool false := q0; have q1e : r (.tmp 48) = .bool false := q1; exact ⟨rfl, by simp [go_sem, q0e, q1e]⟩) ?_
  refine tab_val (.bool false) (fun r w1 hr hg hA => by obtain ⟨⟨_, q0⟩, -⟩ := hA; have q0e : r (.tmp 49) = .bool false := q0; exact ⟨rfl, by simp [go_sem, q0e]⟩) ?_
  refine tab_val (.int .i64 (er : Int)) (fun r w1 hr hg hA => by obtain ⟨q0, ⟨_, q1⟩, -⟩ := hA; have q0e : r (.tmp 5) = .int .i64 (er : Int) := q0; have q1e : r (.tmp 50) = .bool false := q1; exact ⟨⟨_, q1e, rfl⟩, by simp [go_sem, q0e]⟩) ?_
  refine tab_val (.int .i64 (er : Int)) (fun r w1 hr hg hA => by obtain ⟨q0, ⟨_, q1⟩, -⟩ := hA; have q0e : r (.tmp 8) = .int .i64 (er : Int) := q0; have q1e : r (.tmp 50) = .bool false := q1; exact ⟨⟨_, q1e, rfl⟩, by simp [go_sem, q0e]⟩) ?_
  refine tab_val (.bool false) (fun r w1 hr hg hA => by obtain ⟨⟨_, q0⟩, ⟨_, q1⟩, ⟨_, q2⟩, -⟩ := hA; have q0e : r (.tmp 51) = .int .i64 (er : Int) := q0; have q1e : r (.tmp 52) = .int .i64 (er : Int) := q1; have q2e : r (.tmp 50) = .bool false := q2; exact ⟨⟨_, q2e, rfl⟩, by simp [go_sem, q0e, q1e]⟩) ?_
  refine tab_val (.bool false) (fun r w1 hr hg hA => by obtain ⟨⟨_, q0⟩, ⟨_, q1⟩, -⟩ := hA; have q0e : r (.tmp 50) = .bool false := q0; have q1e : r (.tmp 53) = .bool false := q1; exact ⟨rfl, by simp [go_sem, q0e, q1e]⟩) ?_
  refine tab_val (.bool false) (fun r w1 hr hg hA => by obtain ⟨⟨_, q0⟩, -⟩ := hA; have q0e : r (.tmp 54) = .bool false := q0; exact ⟨rfl, by simp [go_sem, q0e]⟩) ?_
  refine tab_val (.int .i64 (s : Int)) (fun r w1 hr hg hA => by obtain ⟨q0, ⟨_, q1⟩, -⟩ := hA; have q0e : r (.tmp 9) = .int .i64 (s : Int) := q0; have q1e : r (.tmp 55) = .bool false := q1; exact ⟨⟨_, q1e, rfl⟩, by simp [go_sem, q0e]⟩) ?_
  refine tab_val (.int .i64 (s : Int)) (fun r w1 hr hg hA => by obtain ⟨q0, ⟨_, q1⟩, -⟩ := hA; have q0e : r (.tmp 4) = .int .i64 (s : Int) := q0; have q1e : r (.tmp 55) = .bool false := q1; exact ⟨⟨_, q1e, rfl⟩, by simp [go_sem, q0e]⟩) ?_
  refine tab_val (.bool false) (fun r w1 hr hg hA => by obtain ⟨⟨_, q0⟩, ⟨_, q1⟩, ⟨_, q2⟩, -⟩ := hA; have q0e : r (.tmp 56) = .int .i64 (s : Int) := q0; have q1e : r (.tmp 57) = .int .i64 (s : Int) := q1; have q2e : r (.tmp 55) = .bool false := q2; exact ⟨⟨_, q2e, rfl⟩, by simp [go_sem, q0e, q1e]⟩) ?_
  refine tab_val (.bool false) (fun r w1 hr hg hA => by obtain ⟨⟨_, q0⟩, ⟨_, q1⟩, -⟩ := hA; have q0e : r (.tmp 55) = .bool false := q0; have q1e : r (.tmp 58) = .bool false := q1; exact ⟨rfl, by simp [go_sem, q0e, q1e]⟩) ?_
  refine tab_val (.bool false) (fun r w1 hr hg hA => by obtain ⟨⟨_, q0⟩, -⟩ := hA; have q0e : r (.tmp 59) = .bool false := q0; exact ⟨rfl, by simp [go_sem, q0e]⟩) ?_
  refine tab_val (.int .i64 (er : Int)) (fun r w1 hr hg hA => by obtain ⟨q0, ⟨_, q1⟩, -⟩ := hA; have q0e : r (.tmp 10) = .int .i64 (er : Int) := q0; have q1e : r (.tmp 60) = .bool false := q1; exact ⟨⟨_, q1e, rfl⟩, by simp [go_sem, q0e]⟩) ?_
  refine tab_val (.int .i64 (er : Int)) (fun r w1 hr hg hA => by obtain ⟨q0, ⟨_, q1⟩, -⟩ := hA; have q0e : r (.tmp 5) = .int .i64 (er : Int) := q0; have q1e : r (.tmp 60) = .bool false := q1; exact ⟨⟨_, q1e, rfl⟩, by simp [go_sem, q0e]⟩) ?_
  refine tab_val (.bool false) (fun r w1 hr hg hA => by obtain ⟨⟨_, q0⟩, ⟨_, q1⟩, ⟨_, q2⟩, -⟩ := hA; have q0e : r (.tmp 61) = .int .i64 (er : Int) := q0; have q1e : r (.tmp 62) = .int .i64 (er : Int) := q1; have q2e : r (.tmp 60) = .bool false := q2; exact ⟨⟨_, q2e, rfl⟩, by simp [go_sem, q0e, q1e]⟩) ?_
  refine tab_val (.bool false) (fun r w1 hr hg hA => by obtain ⟨⟨_, q0⟩, ⟨_, q1⟩, -⟩ := hA; have q0e : r (.tmp 60) = .bool false := q0; have q1e : r (.tmp 63) = .bool false := q1; exact ⟨rfl, by simp [go_sem, q0e, q1e]⟩) ?_
  refine tab_end ?_
  simp only [List.reverse_cons, List.reverse_nil, List.nil_append, List.cons_append, Out, BlockP, forall_eq, forall_const, Act.put, List.setIfInBounds_toArray, List.set_cons_succ, List.set_cons_zero]
  intro wA hgA
  have GA := Lib.hid (G3.out.trans (hg1.trans hgA))
  clear hg1 hgA hg1' hw0
  go_wp2_with fail
  refine (HAL.out _ GA.out).mono ?_
  rintro _ wd ⟨u1, rfl, hu, hg⟩
  have G4 := Lib.hid (GA.out.trans hg)
  have U1 := Lib.hid hu
  clear hg hu GA G3 CF
  go_wp2_with fail
  refine (HRAL.out _ G4.out).mono ?_
  rintro _ we ⟨u2, rfl, hu, hg⟩
  have G5 := Lib.hid (G4.out.trans hg)
  have U2 := Lib.hid hu
  have U1 := Lib.hid (U1.out.grows hg)
  clear hg hu G4
  go_wp2_with fail
  refine (HSM.out _ _ _ U1.out U2.out).mono ?_
  rintro _ wf ⟨rfl, hg⟩
  have G6 := Lib.hid (G5.out.trans hg)
  have U1 := Lib.hid (U1.out.grows hg)
  clear hg G5 U2
  by_cases he : eh = 0
  · obtain ⟨hw1, hw2, hw3⟩ := HB.out he
    have HW := Lib.hid (write_any u1 fl wf U1.out HFL.out.1 (fun f hf => (hw3 f hf).2))
    rw [hw1] at HW
    unfold RetWr at HW
    simp only at HW
    subst he
    clear hw1 hw2 hw3
    go_wp2_with fail
    refine HW.out.mono ?_
    rintro _ wg ⟨u3, rfl, hu, hg⟩
    have G7 := Lib.hid (G6.out.trans hg)
    have U3 := Lib.hid hu
    clear hg hu G6 U1
    go_wp2_with fail
    refine (kn8_any _).mono ?_
    rintro _ wh ⟨rfl, hg⟩
    have G8 := Lib.hid (G7.out.trans hg)
    have U3 := Lib.hid (U3.out.grows hg)
    clear hg G7
    have HSB := Lib.hid (Same_any _ _ l l wh (HP.out.grows G8.out) U3.out)
    rw [show decide (l = l) = true by simp] at HSB
    go_wp2_with fail
    refine HSB.out.mono ?_
    rintro _ wi ⟨rfl, hg⟩
    have G9 := Lib.hid (G8.out.trans hg)
    clear hg
    go_wp2
    go_ret
    exact ⟨rfl, G9.out⟩
  · have bn : ((eh : Int) != 0) = true := by simpa using he
    clear he
    go_wp2_with fail
    refine (kn8_any _).mono ?_
    rintro _ wh ⟨rfl, hg⟩
    have G8 := Lib.hid (G6.out.trans hg)
    clear hg
    go_wp2
    go_ret
    exact ⟨rfl, G8.out⟩
end Go.Proofs.Ytdiciboaehdckaa
