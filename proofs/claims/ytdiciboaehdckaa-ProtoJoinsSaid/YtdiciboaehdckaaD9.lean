/-
  Layer 8: reading a field: the document's answer: words.
-/
import Derived.Test.YtdiciboaehdckaaD8
namespace Go.Proofs.Ytdiciboaehdckaa
open Go.RowKit Go.Tab

theorem i64w (n : Int) : IntKind.i64.wrap n = wrap64 n := by simp [IntKind.wrap, wrap64, IntKind.bits, IntKind.signed]; try omega
theorem setN2 {w : World} {b : Nat} {x y z u z' : Value} {T : TypeId} (h : w.heap[b]? = some (.cells #[x, y, z, u] T (0, 0))) : (w.setCell ⟨b, 2, none⟩ z').heap[b]? = some (.cells #[x, y, z', u] T (0, 0)) := by
  simp [World.setCell, Array.getElem?_modify, h]
theorem setN2o {w : World} {b k : Nat} {z' : Value} (h : k ≠ b) : (w.setCell ⟨b, 2, none⟩ z').heap[k]? = w.heap[k]? := by
  simp [World.setCell, Array.getElem?_modify, Ne.symm h]
theorem fromL_down {seg : List Nat} {k : Nat} (h : k < seg.length) : fromL (seg.drop k) = seg.getD k 0 + 256 * fromL (seg.drop (k + 1)) := by
  rw [List.drop_eq_getElem_cons h]
  simp [fromL, List.getD, h]
theorem fromL_bd {seg : List Nat} {k : Nat} (hl : seg.length ≤ 8) (hx : ∀ x ∈ seg, x < 256) (h : k < seg.length) : 256 * fromL (seg.drop (k + 1)) + seg.getD k 0 < 18446744073709551616 ∧ seg.getD k 0 < 256 := by
  have h1 := fromL_lt (seg.drop k) (fun x hx' => hx x (List.mem_of_mem_drop hx'))
  rw [fromL_down h, List.length_drop] at h1
  have h3 : 256 ^ (seg.length - k) ≤ 256 ^ 8 := Nat.pow_le_pow_right (by omega) (by omega)
  have h4 : (256 : Nat) ^ 8 = 18446744073709551616 := by decide
  refine ⟨by omega, ?_⟩
  rw [show seg.getD k 0 = seg[k] by simp [List.getD, h]]
  exact hx _ (List.getElem_mem h)

set_option maxRecDepth 100000 in
set_option maxHeartbeats 4000000 in
theorem rread_word1 (ba oa n c r1 r2 r3 : Nat) (w : World) (HR : Hid (Calls Try.prog 32 #[.slice (some ⟨ba, oa, none⟩) n c] (w.alloc fzr) (Ret (rdv (r1, r2, r3)) (w.alloc fzr)))) (seg : List Nat) (hr1 : r1 < 18446744073709551616) (hr3 : r3 = 0) (hn1 : ¬ (r1 : Int) / 8 < 1) (hn2 : ¬ 536870911 < (r1 : Int) / 8) (b3 : ((r1 : Int) % 8 == 3) = false) (b4 : ((r1 : Int) % 8 == 4) = false) (h5 : ¬ 5 < (r1 : Int) % 8) (b5 : ((r1 : Int) % 8 == 5) = false) (b0 : ((r1 : Int) % 8 == 0) = false) (b2 : ((r1 : Int) % 8 == 2) = false) (hr2 : r2 + 8 ≤ n) (hnc : n ≤ c) (hn9 : n ≤ 17592186044416) (hseg : seg.length = 8) (hx : ∀ x ∈ seg, x < 256) (hba : ba < w.heap.size) (hcell : ∀ j, j < 8 → w.cell? ⟨ba, oa + (r2 + j), none⟩ = some (.int .u8 (seg.getD j 0))) :
    Calls Try.prog 17 #[.slice (some ⟨ba, oa, none⟩) n c] w (Ret (.tuple #[.agg #[.int .i64 ((r1 : Int) / 8), .int .i64 ((r1 : Int) % 8), .int .u64 (fromL seg : Int), .string ⟨#[]⟩], .int .i64 ((r2 : Int) + 8), .int .i64 0]) w) := by
  subst hr3
  have HX := Lib.hid hx
  have HSG := Lib.hid hseg
  have HCE := Lib.hid hcell
  have HBA := Lib.hid hba
  clear hx hseg hcell hba
  have hs : ¬ (n : Int) - (r2 : Int) < 8 := by omega
  go_enter Try.func17, Try.ntmps17
  go_wp2_with fail
  refine HR.out.mono ?_
  rintro _ w1 ⟨rfl, hg⟩
  have h1 := hg.block (heap_new w fzr _ rfl)
  obtain ⟨c0, c1, c2, c3⟩ := cells4f h1
  have f0 := frozz h1 0
  have f1 := frozz h1 1
  have f2 := frozz h1 2
  have f3 := frozz h1 3
  have H1 := Lib.hid h1
  have G := Lib.hid (((Grows.refl w).al _).trans hg)
  have hz := hg.size
  rw [World.size_alloc] at hz
  have hw : w.heap.size < w1.heap.size := by omega
  have hne : w.heap.size ≠ w1.heap.size := Nat.ne_of_lt hw
  clear hg h1 hz
  go_wp2
  go_loopw [14] (fun i wr => ∃ (j : Nat) (m : Int), j ≤ 8 ∧ m + 1 = (r2 : Int) + (j : Int) ∧ i = .int .i64 m ∧ Hid (wr.heap[w1.heap.size]? = some (.cells #[.int .i64 ((r1 : Int) / 8), .int .i64 ((r1 : Int) % 8), .int .u64 ((fromL (seg.drop j) : Nat) : Int), .string ⟨#[]⟩] 45 (0, 0))) ∧ Hid (wr.heap[w.heap.size]? = some fzr) ∧ Hid (Grows w wr)) (fun i _ => (intOf i + 1 - (r2 : Int)).toNat)
  case atStart => exact ⟨8, _, Nat.le_refl _, by omega, rfl, Lib.hid (by rw [List.drop_of_length_le (by rw [HSG.out]; exact Nat.le_refl _)]; exact heap_new _ _ _ rfl), Lib.hid ((Grows.alloc _ _).block H1.out), Lib.hid (G.out.al _)⟩
  case round =>
    obtain ⟨j, m, hj, hm, rfl, HQ2, HQ1, HG⟩ := hrel
    clear c0 c1 c2 c3 f0 f1 f2 f3
    by_cases hj0 : j = 0
    · subst hj0
      obtain rfl : m = (r2 : Int) - 1 := by omega
      have hfin : ¬ (r2 : Int) ≤ (r2 : Int) - 1 := by omega
      have q1 := HQ1.out
      have q2 := HQ2.out
      obtain ⟨c0, c1, c2, c3⟩ := cells4f q1
      have f0 := frozz q1 0
      have f1 := frozz q1 1
      have f2 := frozz q1 2
      have f3 := frozz q1 3
      obtain ⟨d0, d1, d2, d3⟩ := cells4f q2
      clear q1 q2 hm hj
      rw [List.drop_zero] at d2
      go_wp2
      exact bodyPost_ret (v := .tuple #[.agg #[.int .i64 ((r1 : Int) / 8), .int .i64 ((r1 : Int) % 8), .int .u64 (fromL seg : Int), .string ⟨#[]⟩], .int .i64 ((r2 : Int) + 8), .int .i64 0]) (by simp [results, Try.results17, go_sem, c0, c1, c2, c3, hw, hne]) rfl ⟨rfl, ((((HG.out).st (by first | exact Nat.le_refl _ | exact Nat.le_of_lt hw) _).st (by first | exact Nat.le_refl _ | exact Nat.le_of_lt hw) _).st (by first | exact Nat.le_refl _ | exact Nat.le_of_lt hw) _).st (by first | exact Nat.le_refl _ | exact Nat.le_of_lt hw) _⟩
    · obtain ⟨k, rfl⟩ : ∃ k, j = k + 1 := ⟨j - 1, by omega⟩
      obtain rfl : m = (r2 : Int) + (k : Int) := by omega
      have hks : k < seg.length := by rw [HSG.out]; omega
      have HF := Lib.hid (fromL_down hks)
      have HB := Lib.hid (fromL_bd (by rw [HSG.out]; omega) HX.out hks)
      have CX : Hid (∀ w', Grows w w' → w'.cell? ⟨ba, oa + (r2 + k), none⟩ = some (.int .u8 (seg.getD k 0))) := Lib.hid (fun w' hg => by rw [Below.cell hg (p := ⟨ba, oa + (r2 + k), none⟩) HBA.out]; exact HCE.out k (by omega))
      obtain ⟨x, hxe⟩ : ∃ x, x = seg.getD k 0 := ⟨_, rfl⟩
      obtain ⟨F, hFe⟩ : ∃ F, F = fromL (seg.drop (k + 1)) := ⟨_, rfl⟩
      rw [← hxe] at HF HB CX
      rw [← hFe] at HF HB HQ2
      clear hxe hFe hks
      have CF : Hid (∀ w', Grows wr w' → w'.cell? ⟨w1.heap.size, 2, none⟩ = some (.int .u64 (F : Int)) ∧ w'.cell? ⟨ba, oa + (r2 + k), none⟩ = some (.int .u8 (x : Int))) := Lib.hid (fun w' hg => ⟨(cells4f (hg.block HQ2.out)).2.2.1, CX.out w' (HG.out.trans hg)⟩)
      have W1 : Hid (IntKind.u64.wrap (256 * (F : Int)) = 256 * (F : Int)) := Lib.hid (by have := u64_id (n := 256 * F) (by have := HB.out; omega); rw [Int.natCast_mul] at this; exact this)
      have W2 : Hid (IntKind.u64.wrap (256 * (F : Int) + (x : Int)) = 256 * (F : Int) + (x : Int)) := Lib.hid (by have := u64_id (n := 256 * F + x) (by have := HB.out; omega); rw [Int.natCast_add, Int.natCast_mul] at this; exact this)
      have W3 : Hid (IntKind.u64.wrap (x : Int) = (x : Int)) := Lib.hid (u64_id (by have := HB.out; omega))
      have i1 : (0 : Int) ≤ (r2 : Int) + (k : Int) := by omega
      have i2 : (r2 : Int) + (k : Int) < (n : Int) := by omega
      have i3 : ((r2 : Int) + (k : Int)).toNat = r2 + k := by omega
      have i4 : r2 + k < n := by omega
      have hge : (r2 : Int) ≤ (r2 : Int) + (k : Int) := by omega
      go_wp2_with fail
      refine wp_region_tab 10 (by kernel_rfl) (by kernel_rfl) ?_
      intro w0 hw0 hg1 hg1'
      simp only [List.take_succ_cons, List.take_zero, List.drop_succ_cons, List.drop_zero]
      refine tab_val (.pointer (some ⟨w1.heap.size, 2, none⟩)) (fun r w1x hr hg hA => by obtain ⟨q0, -⟩ := hA; have q0e : r (.tmp 8) = .pointer (some ⟨w1.heap.size, 0, none⟩) := q0; exact ⟨rfl, by simp [go_sem, q0e]⟩) ?_
      refine tab_val (.int .u64 ((F : Int))) (fun r w1x hr hg hA => by obtain ⟨⟨_, q0⟩, -⟩ := hA; have q0e : r (.tmp 119) = .pointer (some ⟨w1.heap.size, 2, none⟩) := q0; have hc := CF.out w1x (hg1.trans hg); exact ⟨rfl, by simp [go_sem, q0e, hc]⟩) ?_
      refine tab_val (.int .u64 (256 * (F : Int))) (fun r w1x hr hg hA => by obtain ⟨⟨_, q0⟩, -⟩ := hA; have q0e : r (.tmp 120) = .int .u64 ((F : Int)) := q0; exact ⟨rfl, by simp [go_sem, hr.const, q0e, W1.out]⟩) ?_
      refine tab_val (.slice (some ⟨ba, oa, none⟩) n c) (fun r w1x hr hg hA => by obtain ⟨q0, -⟩ := hA; have q0e : r (.tmp 0) = .slice (some ⟨ba, oa, none⟩) n c := q0; exact ⟨rfl, by simp [go_sem, q0e]⟩) ?_
      refine tab_val (.int .i64 ((r2 : Int) + (k : Int))) (fun r w1x hr hg hA => by obtain ⟨q0, -⟩ := hA; have q0e : r (.tmp 14) = .int .i64 ((r2 : Int) + (k : Int)) := q0; exact ⟨rfl, by simp [go_sem, q0e]⟩) ?_
      refine tab_val (.pointer (some ⟨ba, oa + (r2 + k), none⟩)) (fun r w1x hr hg hA => by obtain ⟨⟨_, q0⟩, ⟨_, q1⟩, -⟩ := hA; have q0e : r (.tmp 122) = .slice (some ⟨ba, oa, none⟩) n c := q0; have q1e : r (.tmp 123) = .int .i64 ((r2 : Int) + (k : Int)) := q1; exact ⟨rfl, by simp [go_sem, q0e, q1e, i1, i2, i3, i4]⟩) ?_
      refine tab_val (.int .u8 ((x : Int))) (fun r w1x hr hg hA => by obtain ⟨⟨_, q0⟩, -⟩ := hA; have q0e : r (.tmp 124) = .pointer (some ⟨ba, oa + (r2 + k), none⟩) := q0; have hc := CF.out w1x (hg1.trans hg); exact ⟨rfl, by simp [go_sem, q0e, hc]⟩) ?_
      refine tab_val (.int .u64 ((x : Int))) (fun r w1x hr hg hA => by obtain ⟨⟨_, q0⟩, -⟩ := hA; have q0e : r (.tmp 125) = .int .u8 ((x : Int)) := q0; exact ⟨rfl, by simp [go_sem, q0e, W3.out]⟩) ?_
      refine tab_val (.int .u64 (256 * (F : Int) + (x : Int))) (fun r w1x hr hg hA => by obtain ⟨⟨_, q0⟩, ⟨_, q1⟩, -⟩ := hA; have q0e : r (.tmp 121) = .int .u64 (256 * (F : Int)) := q0; have q1e : r (.tmp 126) = .int .u64 ((x : Int)) := q1; exact ⟨rfl, by simp [go_sem, q0e, q1e, W2.out]⟩) ?_
      refine tab_val (.pointer (some ⟨w1.heap.size, 2, none⟩)) (fun r w1x hr hg hA => by obtain ⟨q0, -⟩ := hA; have q0e : r (.tmp 8) = .pointer (some ⟨w1.heap.size, 0, none⟩) := q0; exact ⟨rfl, by simp [go_sem, q0e]⟩) ?_
      refine tab_end ?_
      simp only [List.reverse_cons, List.reverse_nil, List.nil_append, List.cons_append, Out, BlockP, forall_eq, forall_const, Act.put, List.setIfInBounds_toArray, List.set_cons_succ, List.set_cons_zero]
      intro wA hgA
      have HA2 := Lib.hid ((hg1.trans hgA).block HQ2.out)
      have HA1 := Lib.hid ((hg1.trans hgA).block HQ1.out)
      have GA := Lib.hid (HG.out.trans (hg1.trans hgA))
      have d2 := (cells4f HA2.out).2.2.1
      have e2 := frozz HA2.out 2
      clear hg1 hgA hg1' hw0 hm
      go_wp2
      exact ⟨⟨k, _, by omega, by omega, rfl, Lib.hid (by rw [setN2 HA2.out, HF.out, Int.natCast_add, Int.natCast_mul, Int.add_comm]; rfl), Lib.hid ((setN2o hne).trans HA1.out), Lib.hid (GA.out.st (Nat.le_of_lt hw) _)⟩, by simp only [intOf]; omega⟩

set_option maxRecDepth 100000 in
set_option maxHeartbeats 4000000 in
theorem rread_word5 (ba oa n c r1 r2 r3 : Nat) (w : World) (HR : Hid (Calls Try.prog 32 #[.slice (some ⟨ba, oa, none⟩) n c] (w.alloc fzr) (Ret (rdv (r1, r2, r3)) (w.alloc fzr)))) (seg : List Nat) (hr1 : r1 < 18446744073709551616) (hr3 : r3 = 0) (hn1 : ¬ (r1 : Int) / 8 < 1) (hn2 : ¬ 536870911 < (r1 : Int) / 8) (b3 : ((r1 : Int) % 8 == 3) = false) (b4 : ((r1 : Int) % 8 == 4) = false) (h5 : ¬ 5 < (r1 : Int) % 8) (b5 : ((r1 : Int) % 8 == 5) = true) (b0 : ((r1 : Int) % 8 == 0) = false) (b2 : ((r1 : Int) % 8 == 2) = false) (hr2 : r2 + 4 ≤ n) (hnc : n ≤ c) (hn9 : n ≤ 17592186044416) (hseg : seg.length = 4) (hx : ∀ x ∈ seg, x < 256) (hba : ba < w.heap.size) (hcell : ∀ j, j < 4 → w.cell? ⟨ba, oa + (r2 + j), none⟩ = some (.int .u8 (seg.getD j 0))) :
    Calls Try.prog 17 #[.slice (some ⟨ba, oa, none⟩) n c] w (Ret (.tuple #[.agg #[.int .i64 ((r1 : Int) / 8), .int .i64 ((r1 : Int) % 8), .int .u64 (fromL seg : Int), .string ⟨#[]⟩], .int .i64 ((r2 : Int) + 4), .int .i64 0]) w) := by
  subst hr3
  have HX := Lib.hid hx
  have HSG := Lib.hid hseg
  have HCE := Lib.hid hcell
  have HBA := Lib.hid hba
  clear hx hseg hcell hba
  have hs : ¬ (n : Int) - (r2 : Int) < 4 := by omega
  go_enter Try.func17, Try.ntmps17
  go_wp2_with fail
  refine HR.out.mono ?_
  rintro _ w1 ⟨rfl, hg⟩
  have h1 := hg.block (heap_new w fzr _ rfl)
  obtain ⟨c0, c1, c2, c3⟩ := cells4f h1
  have f0 := frozz h1 0
  have f1 := frozz h1 1
  have f2 := frozz h1 2
  have f3 := frozz h1 3
  have H1 := Lib.hid h1
  have G := Lib.hid (((Grows.refl w).al _).trans hg)
  have hz := hg.size
  rw [World.size_alloc] at hz
  have hw : w.heap.size < w1.heap.size := by omega
  have hne : w.heap.size ≠ w1.heap.size := Nat.ne_of_lt hw
  clear hg h1 hz
  go_wp2
  go_loopw [14] (fun i wr => ∃ (j : Nat) (m : Int), j ≤ 4 ∧ m + 1 = (r2 : Int) + (j : Int) ∧ i = .int .i64 m ∧ Hid (wr.heap[w1.heap.size]? = some (.cells #[.int .i64 ((r1 : Int) / 8), .int .i64 ((r1 : Int) % 8), .int .u64 ((fromL (seg.drop j) : Nat) : Int), .string ⟨#[]⟩] 45 (0, 0))) ∧ Hid (wr.heap[w.heap.size]? = some fzr) ∧ Hid (Grows w wr)) (fun i _ => (intOf i + 1 - (r2 : Int)).toNat)
  case atStart => exact ⟨4, _, Nat.le_refl _, by omega, rfl, Lib.hid (by rw [List.drop_of_length_le (by rw [HSG.out]; exact Nat.le_refl _)]; exact heap_new _ _ _ rfl), Lib.hid ((Grows.alloc _ _).block H1.out), Lib.hid (G.out.al _)⟩
  case round =>
    obtain ⟨j, m, hj, hm, rfl, HQ2, HQ1, HG⟩ := hrel
    clear c0 c1 c2 c3 f0 f1 f2 f3
    by_cases hj0 : j = 0
    · subst hj0
      obtain rfl : m = (r2 : Int) - 1 := by omega
      have hfin : ¬ (r2 : Int) ≤ (r2 : Int) - 1 := by omega
      have q1 := HQ1.out
      have q2 := HQ2.out
      obtain ⟨c0, c1, c2, c3⟩ := cells4f q1
      have f0 := frozz q1 0
      have f1 := frozz q1 1
      have f2 := frozz q1 2
      have f3 := frozz q1 3
      obtain ⟨d0, d1, d2, d3⟩ := cells4f q2
      clear q1 q2 hm hj
      rw [List.drop_zero] at d2
      go_wp2
      exact bodyPost_ret (v := .tuple #[.agg #[.int .i64 ((r1 : Int) / 8), .int .i64 ((r1 : Int) % 8), .int .u64 (fromL seg : Int), .string ⟨#[]⟩], .int .i64 ((r2 : Int) + 4), .int .i64 0]) (by simp [results, Try.results17, go_sem, c0, c1, c2, c3, hw, hne]) rfl ⟨rfl, ((((HG.out).st (by first | exact Nat.le_refl _ | exact Nat.le_of_lt hw) _).st (by first | exact Nat.le_refl _ | exact Nat.le_of_lt hw) _).st (by first | exact Nat.le_refl _ | exact Nat.le_of_lt hw) _).st (by first | exact Nat.le_refl _ | exact Nat.le_of_lt hw) _⟩
    · obtain ⟨k, rfl⟩ : ∃ k, j = k + 1 := ⟨j - 1, by omega⟩
      obtain rfl : m = (r2 : Int) + (k : Int) := by omega
      have hks : k < seg.length := by rw [HSG.out]; omega
      have HF := Lib.hid (fromL_down hks)
      have HB := Lib.hid (fromL_bd (by rw [HSG.out]; omega) HX.out hks)
      have CX : Hid (∀ w', Grows w w' → w'.cell? ⟨ba, oa + (r2 + k), none⟩ = some (.int .u8 (seg.getD k 0))) := Lib.hid (fun w' hg => by rw [Below.cell hg (p := ⟨ba, oa + (r2 + k), none⟩) HBA.out]; exact HCE.out k (by omega))
      obtain ⟨x, hxe⟩ : ∃ x, x = seg.getD k 0 := ⟨_, rfl⟩
      obtain ⟨F, hFe⟩ : ∃ F, F = fromL (seg.drop (k + 1)) := ⟨_, rfl⟩
      rw [← hxe] at HF HB CX
      rw [← hFe] at HF HB HQ2
      clear hxe hFe hks
      have CF : Hid (∀ w', Grows wr w' → w'.cell? ⟨w1.heap.size, 2, none⟩ = some (.int .u64 (F : Int)) ∧ w'.cell? ⟨ba, oa + (r2 + k), none⟩ = some (.int .u8 (x : Int))) := Lib.hid (fun w' hg => ⟨(cells4f (hg.block HQ2.out)).2.2.1, CX.out w' (HG.out.trans hg)⟩)
      have W1 : Hid (IntKind.u64.wrap (256 * (F : Int)) = 256 * (F : Int)) := Lib.hid (by have := u64_id (n := 256 * F) (by have := HB.out; omega); rw [Int.natCast_mul] at this; exact this)
      have W2 : Hid (IntKind.u64.wrap (256 * (F : Int) + (x : Int)) = 256 * (F : Int) + (x : Int)) := Lib.hid (by have := u64_id (n := 256 * F + x) (by have := HB.out; omega); rw [Int.natCast_add, Int.natCast_mul] at this; exact this)
      have W3 : Hid (IntKind.u64.wrap (x : Int) = (x : Int)) := Lib.hid (u64_id (by have := HB.out; omega))
      have i1 : (0 : Int) ≤ (r2 : Int) + (k : Int) := by omega
      have i2 : (r2 : Int) + (k : Int) < (n : Int) := by omega
      have i3 : ((r2 : Int) + (k : Int)).toNat = r2 + k := by omega
      have i4 : r2 + k < n := by omega
      have hge : (r2 : Int) ≤ (r2 : Int) + (k : Int) := by omega
      go_wp2_with fail
      refine wp_region_tab 10 (by kernel_rfl) (by kernel_rfl) ?_
      intro w0 hw0 hg1 hg1'
      simp only [List.take_succ_cons, List.take_zero, List.drop_succ_cons, List.drop_zero]
      refine tab_val (.pointer (some ⟨w1.heap.size, 2, none⟩)) (fun r w1x hr hg hA => by obtain ⟨q0, -⟩ := hA; have q0e : r (.tmp 8) = .pointer (some ⟨w1.heap.size, 0, none⟩) := q0; exact ⟨rfl, by simp [go_sem, q0e]⟩) ?_
      refine tab_val (.int .u64 ((F : Int))) (fun r w1x hr hg hA => by obtain ⟨⟨_, q0⟩, -⟩ := hA; have q0e : r (.tmp 119) = .pointer (some ⟨w1.heap.size, 2, none⟩) := q0; have hc := CF.out w1x (hg1.trans hg); exact ⟨rfl, by simp [go_sem, q0e, hc]⟩) ?_
      refine tab_val (.int .u64 (256 * (F : Int))) (fun r w1x hr hg hA => by obtain ⟨⟨_, q0⟩, -⟩ := hA; have q0e : r (.tmp 120) = .int .u64 ((F : Int)) := q0; exact ⟨rfl, by simp [go_sem, hr.const, q0e, W1.out]⟩) ?_
      refine tab_val (.slice (some ⟨ba, oa, none⟩) n c) (fun r w1x hr hg hA => by obtain ⟨q0, -⟩ := hA; have q0e : r (.tmp 0) = .slice (some ⟨ba, oa, none⟩) n c := q0; exact ⟨rfl, by simp [go_sem, q0e]⟩) ?_
      refine tab_val (.int .i64 ((r2 : Int) + (k : Int))) (fun r w1x hr hg hA => by obtain ⟨q0, -⟩ := hA; have q0e : r (.tmp 14) = .int .i64 ((r2 : Int) + (k : Int)) := q0; exact ⟨rfl, by simp [go_sem, q0e]⟩) ?_
      refine tab_val (.pointer (some ⟨ba, oa + (r2 + k), none⟩)) (fun r w1x hr hg hA => by obtain ⟨⟨_, q0⟩, ⟨_, q1⟩, -⟩ := hA; have q0e : r (.tmp 122) = .slice (some ⟨ba, oa, none⟩) n c := q0; have q1e : r (.tmp 123) = .int .i64 ((r2 : Int) + (k : Int)) := q1; exact ⟨rfl, by simp [go_sem, q0e, q1e, i1, i2, i3, i4]⟩) ?_
      refine tab_val (.int .u8 ((x : Int))) (fun r w1x hr hg hA => by obtain ⟨⟨_, q0⟩, -⟩ := hA; have q0e : r (.tmp 124) = .pointer (some ⟨ba, oa + (r2 + k), none⟩) := q0; have hc := CF.out w1x (hg1.trans hg); exact ⟨rfl, by simp [go_sem, q0e, hc]⟩) ?_
      refine tab_val (.int .u64 ((x : Int))) (fun r w1x hr hg hA => by obtain ⟨⟨_, q0⟩, -⟩ := hA; have q0e : r (.tmp 125) = .int .u8 ((x : Int)) := q0; exact ⟨rfl, by simp [go_sem, q0e, W3.out]⟩) ?_
      refine tab_val (.int .u64 (256 * (F : Int) + (x : Int))) (fun r w1x hr hg hA => by obtain ⟨⟨_, q0⟩, ⟨_, q1⟩, -⟩ := hA; have q0e : r (.tmp 121) = .int .u64 (256 * (F : Int)) := q0; have q1e : r (.tmp 126) = .int .u64 ((x : Int)) := q1; exact ⟨rfl, by simp [go_sem, q0e, q1e, W2.out]⟩) ?_
      refine tab_val (.pointer (some ⟨w1.heap.size, 2, none⟩)) (fun r w1x hr hg hA => by obtain ⟨q0, -⟩ := hA; have q0e : r (.tmp 8) = .pointer (some ⟨w1.heap.size, 0, none⟩) := q0; exact ⟨rfl, by simp [go_sem, q0e]⟩) ?_
      refine tab_end ?_
      simp only [List.reverse_cons, List.reverse_nil, List.nil_append, List.cons_append, Out, BlockP, forall_eq, forall_const, Act.put, List.setIfInBounds_toArray, List.set_cons_succ, List.set_cons_zero]
      intro wA hgA
      have HA2 := Lib.hid ((hg1.trans hgA).block HQ2.out)
      have HA1 := Lib.hid ((hg1.trans hgA).block HQ1.out)
      have GA := Lib.hid (HG.out.trans (hg1.trans hgA))
      have d2 := (cells4f HA2.out).2.2.1
      have e2 := frozz HA2.out 2
      clear hg1 hgA hg1' hw0 hm
      go_wp2
      exact ⟨⟨k, _, by omega, by omega, rfl, Lib.hid (by rw [setN2 HA2.out, HF.out, Int.natCast_add, Int.natCast_mul, Int.add_comm]; rfl), Lib.hid ((setN2o hne).trans HA1.out), Lib.hid (GA.out.st (Nat.le_of_lt hw) _)⟩, by simp only [intOf]; omega⟩
end Go.Proofs.Ytdiciboaehdckaa
