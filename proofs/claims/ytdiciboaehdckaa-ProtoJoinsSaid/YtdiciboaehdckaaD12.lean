/-
  Layer 8: writing fields: the walk.
-/
import Derived.Test.YtdiciboaehdckaaD11
namespace Go.Proofs.Ytdiciboaehdckaa
open Go.RowKit Go.Tab Go.WideShapes

theorem own_join {w : World} {b : Nat} {T : TypeId} {v : Value} {A B : List Nat} (h : w.ownsRow b T 1 v (A.length + B.length) (A.map u8v ++ B.map u8v)) : w.ownsRow b T 1 v (A ++ B).length ((A ++ B).map u8v) := by
  rw [List.length_append, List.map_append]; exact h
theorem ownsRow_later {w w' : World} {base : Nat} {T : TypeId} {s : Nat} {v : Value} {n : Nat} {xs : List Value} (h : w.ownsRow base T s v n xs) (hg : Grows w w') : w'.ownsRow base T s v n xs := ownsRow_grows h hg
theorem row_later {s : Nat} {w w' : World} {v : Value} {m : Nat} {news : List Value} (h : RowAt s w v m news) (hg : Grows w w') : RowAt s w' v m news := by
  obtain ⟨h0, h1, h | ⟨b, off, c, hv, hb, hc⟩⟩ := h
  · exact ⟨h0, h1, .inl h⟩
  · exact ⟨h0, h1, .inr ⟨b, off, c, hv, Nat.lt_of_lt_of_le hb hg.size, fun j x hj => by rw [Below.cell hg (p := ⟨b, off + j, none⟩) hb]; exact hc j x hj⟩⟩
theorem own_row {w : World} {base : Nat} {T : TypeId} {v : Value} {l : List Nat} (h : w.ownsRow base T 1 v l.length (l.map u8v)) : RowAt 1 w v l.length (l.map u8v) := by
  refine ⟨by simp, nums_one l, ?_⟩
  have hc := h
  obtain ⟨_, ⟨rfl, h0⟩ | ⟨g, cap, cur, rfl, hb, hh, h1, h2, h3, h4⟩⟩ := h
  · exact .inl ⟨h0, none, 0, rfl, fun _ => rfl⟩
  · exact .inr ⟨g, 0, cap, rfl, (Array.getElem?_eq_some_iff.1 hh).1, fun j x hj => by have := hc.cells (g := g) rfl j x hj; rw [Tab.add_at] at this; exact this⟩

set_option maxRecDepth 100000 in
set_option maxHeartbeats 8000000 in
theorem write_any (v : Value) (fs : List Fld) (w : World) (hp : FldsAt w v fs) (hl : fs.length ≤ 1000) (hok : ∀ f ∈ fs, f.Ok) : Calls Try.prog 8 #[v] w (RetWr (wrF fs) w) := by
  obtain ⟨i0, hi, hz0, hz1, hz2⟩ := info_parts info8
  obtain ⟨a, c, rfl, hnc, -⟩ := hp.shape
  have HP := Lib.hid hp
  have HFO := Lib.hid hok
  obtain ⟨n, hn⟩ : ∃ n, n = fs.length := ⟨_, rfl⟩
  rw [← hn] at hl hnc HP ⊢
  have HN := Lib.hid hn
  clear hp hok hn
  go_enter Try.func8, Try.ntmps8
  go_wp2
  go_loopw [4, 10] (fun o' i wr => ∃ (k : Nat) (o : Value), k ≤ n ∧ o = o' ∧ i = .int .i64 (k : Int) ∧ Hid (∀ i g, i < k → fs[i]? = some g → okF g = 0) ∧ Hid (wr.ownsRow w.heap.size 5 1 o ((fs.take k).flatMap wrB).length (((fs.take k).flatMap wrB).map u8v)) ∧ Hid (Grows w wr)) (fun _ i _ => n - (intOf i).toNat)
  case atStart => exact ⟨0, _, Nat.zero_le _, rfl, rfl, Lib.hid (fun i g hi => absurd hi (Nat.not_lt_zero _)), Lib.hid (World.ownsRow_nil _ _ _ _), Lib.hid (Grows.refl _)⟩
  case round =>
    obtain ⟨k, o, hk, rfl, rfl, HOK, HO, HG⟩ := hrel
    by_cases hlt : k < n
    · obtain ⟨f, hf⟩ : ∃ f, fs[k]? = some f := ⟨_, List.getElem?_eq_getElem (by rw [← HN.out]; exact hlt)⟩
      obtain ⟨ba, oa, bv, rfl, hba, c0, c1, c2, c3, hbs⟩ := (HP.out.grows HG.out).at_ hf
      have HBS0 := Lib.hid (fun w' (hg : Grows w w') => show NumsAt .u8 w' bv f.bs by
        obtain ⟨b2, o2, bv2, h1, -, -, -, -, h3, h4⟩ := (HP.out.grows hg).at_ hf
        obtain ⟨b4, o4, bv4, h5, -, -, -, -, h7, h8⟩ := HP.out.at_ hf
        obtain ⟨b6, o6, bv6, h9, hbb, -, -, -, h11, h12⟩ := HP.out.at_ hf
        injection h1 with h1; injection h1 with h1 h1' _
        injection h9 with h9; injection h9 with h9 h9' _
        subst h1 h1' h9 h9'
        have e1 : wr.cell? ⟨ba, oa + k * 4 + 3, none⟩ = some bv6 := by rw [Below.cell HG.out (p := ⟨ba, oa + k * 4 + 3, none⟩) hbb]; exact h11
        rw [c3] at e1
        injection e1 with e1
        subst e1
        exact h12.grows hg)
      obtain ⟨av, cv, rfl⟩ := hbs.shape
      have hfo := HFO.out f (List.mem_of_getElem? hf)
      have HFL := Lib.hid (flat_snoc hf)
      have HOK0 : Hid (okF f = 0 → ∀ g, fs[k]? = some g → okF g = 0) := Lib.hid (fun h g hg => by rw [hf] at hg; cases hg; exact h)
      have HBAD := Lib.hid (fun h => wrF_bad HOK.out hf h)
      have HAL0 := Lib.hid (flat_len HFO.out k HOK.out)
      generalize (fs.take k).flatMap wrB = A at HO HFL HAL0
      obtain ⟨num, kind, fn, bs⟩ := f
      simp only at c0 c1 c2 c3 hbs hfo HBS0
      have HCK := Lib.hid (fun w => check_any num kind (fn : Int) av bs.length cv w)
      have HOF : Hid (okF ⟨num, kind, fn, bs⟩ = chkI num kind fn bs.length) := Lib.hid rfl
      obtain ⟨ln, hln⟩ : ∃ ln, ln = bs.length := ⟨_, rfl⟩
      have HZ := Lib.hid (okF_zero (f := ⟨num, kind, fn, bs⟩))
      have HLN9 : Hid (ln ≤ 1000) := Lib.hid (by rw [hln]; exact hfo.len)
      have HFNN : Hid (fn < 18446744073709551616) := Lib.hid hfo.n
      have HFN : Hid ((fn : Int) < 18446744073709551616) := Lib.hid (by have h : fn < 18446744073709551616 := hfo.n; omega)
      have HWB0 : Hid (wrB ⟨num, kind, fn, bs⟩ = enc (8 * num + kind).toNat ++ (if kind = 0 then enc fn else if kind = 1 then lowL fn 8 else if kind = 5 then lowL fn 4 else enc bs.length ++ bs)) := Lib.hid rfl
      rw [← hln] at HCK HBS0 HOF c3 HWB0
      have HLNB := Lib.hid hln
      have HAL : Hid (A.length ≤ 1020000) := Lib.hid (by have := HAL0.out; have : k * 1020 ≤ 1000 * 1020 := Nat.mul_le_mul_right _ (by omega); omega)
      clear hf hbs hfo hln HAL0
      have HBS := HBS0
      by_cases he : chkI num kind fn ln = 0
      · obtain ⟨hn1, hn2, hkk⟩ := HZ.out (HOF.out.trans he)
        simp only at hn1 hn2 hkk
        have HOKK := Lib.hid (HOK0.out (HOF.out.trans he))
        clear HOK0
        rw [he] at HCK
        clear HZ HBAD HOF he
        have HE1 : Hid (∀ x : Int, x = 8 * num + kind → enc x.toNat = enc (8 * num + kind).toNat) := Lib.hid (fun x hx => by rw [hx])
        have HEL1 : Hid ((enc (8 * num + kind).toNat).length ≤ 10) := Lib.hid (enc_len10 (by omega))
        have HEL2 : Hid ((enc fn).length ≤ 10) := Lib.hid (enc_len10 HFNN.out)
        have HEL3 : Hid ((enc ln).length ≤ 10) := Lib.hid (enc_len10 (by have := HLN9.out; omega))
        obtain ⟨E1, hE1⟩ : ∃ E1, E1 = enc (8 * num + kind).toNat := ⟨_, rfl⟩
        rw [← hE1] at HE1 HEL1 HWB0
        have HEL : Hid (E1.length ≤ 10 ∧ (enc fn).length ≤ 10 ∧ (enc ln).length ≤ 10 ∧ (lowL fn 8).length = 8 ∧ (lowL fn 4).length = 4 ∧ bs.length ≤ 1000) := Lib.hid ⟨HEL1.out, HEL2.out, HEL3.out, lowL_len _ _, lowL_len _ _, by rw [← HLNB.out]; exact HLN9.out⟩
        clear hE1 HEL1 HEL2 HEL3
        have HKI := Lib.hid hkk
        go_wp2_with fail
        refine (HCK.out _).mono ?_
        rintro _ w1 ⟨rfl, hg⟩
        have HO1 := Lib.hid (ownsRow_later (ownsRow_later HO.out (Grows.alloc _ _)) hg)
        have HB := Lib.hid (hg.block (heap_new wr (.cells #[.int .i64 num, .int .i64 kind, .int .u64 (fn : Int), .slice av ln cv] 41) _ rfl))
        have HG1 := Lib.hid ((HG.out.al _).trans hg)
        clear hg HO HG c0 c1 c2 c3 hkk
        have HO := HO1
        have HG := HG1
        clear HO1 HG1
        obtain ⟨d0, d1, d2, d3⟩ := cells4f HB.out
        rcases HKI.out with ⟨hk0, -⟩ | ⟨hk0, -⟩ | ⟨hk0, -⟩ | ⟨hk0, -, -⟩
        all_goals subst hk0
        · have HW0 : Hid (wrB ⟨num, 0, fn, bs⟩ = E1 ++ enc fn) := HWB0
          go_wp2_with fail
          refine (bytes_oneI _ (_) _ (heap_new _ _ _ rfl) (by omega) (by omega)).mono ?_
          rintro _ w2 ⟨u2, rfl, hu, hg⟩
          have hu1 : NumsAt .u8 w2 u2 E1 := by
            have h := hu
            rw [HE1.out _ (by omega)] at h
            exact h
          have HU := Lib.hid (nums_row hu1)
          clear hu1
          have HO' := Lib.hid (ownsRow_later (ownsRow_later HO.out (Grows.alloc _ _)) hg)
          have HB' := Lib.hid (hg.block ((Grows.alloc _ _).block HB.out))
          have HG' := Lib.hid ((HG.out.al _).trans hg)
          clear hu hg HO HB HG
          have HO := HO'
          have HB := HB'
          have HG := HG'
          clear HO' HB' HG'
          try clear d0 d1 d2 d3
          obtain ⟨d0, d1, d2, d3⟩ := cells4f HB.out
          have HL63 : Hid ((A).length + (E1).length ≤ maxLen) := Lib.hid (by have := HAL.out; have := HEL.out; (try simp only [List.length_append]); unfold maxLen; omega)
          have HLB : Hid (((A).length + (E1).length) * 1 ≤ 140737488355328) := Lib.hid (by have := HAL.out; have := HEL.out; (try simp only [List.length_append]); omega)
          go_wp2_with (at_builtin; go_loud (refine append_row2 rfl _ _ 24 rfl w.heap.size 5 i0 (.int .u8 0) 1 1 Try.underlying24 hi hz0 hz1 hz2 rfl (by decide) o (A).length ((A).map u8v) rfl HO.out (E1).length ((E1).map u8v) u2 rfl HU.out HL63.out HLB.out HG.out.size ?_; intro o3 w3 hown hgr; have HB' := Lib.hid (grown_block HO.out HB.out (by decide) hgr); have HG' := Lib.hid (grown_all HO.out HG.out hgr); have HO' := Lib.hid (own_join hown); clear hown hgr HO HB HG HL63 HLB; have HO := HO'; have HB := HB'; have HG := HG'; clear HO' HB' HG'; obtain ⟨d0, d1, d2, d3⟩ := cells4f HB.out))
          have HWB := Lib.hid (HW0.out)
          clear d0 d1 d2 d3
          obtain ⟨d0, d1, d2, d3⟩ := cells4f HB.out
          go_wp2_with fail
          refine (bytes_oneI _ ((fn : Int)) _ (heap_new _ _ _ rfl) (Int.natCast_nonneg fn) HFN.out).mono ?_
          rintro _ w4 ⟨u4, rfl, hu, hg⟩
          have HU := Lib.hid (nums_row hu)
          have HO' := Lib.hid (ownsRow_later (ownsRow_later HO.out (Grows.alloc _ _)) hg)
          have HB' := Lib.hid (hg.block ((Grows.alloc _ _).block HB.out))
          have HG' := Lib.hid ((HG.out.al _).trans hg)
          clear hu hg HO HB HG
          have HO := HO'
          have HB := HB'
          have HG := HG'
          clear HO' HB' HG'
          try clear d0 d1 d2 d3
          obtain ⟨d0, d1, d2, d3⟩ := cells4f HB.out
          have HL63 : Hid ((A ++ E1).length + (enc fn).length ≤ maxLen) := Lib.hid (by have := HAL.out; have := HEL.out; (try simp only [List.length_append]); unfold maxLen; omega)
          have HLB : Hid (((A ++ E1).length + (enc fn).length) * 1 ≤ 140737488355328) := Lib.hid (by have := HAL.out; have := HEL.out; (try simp only [List.length_append]); omega)
          go_wp2_with (at_builtin; go_loud (refine append_row2 rfl _ _ 24 rfl w.heap.size 5 i0 (.int .u8 0) 1 1 Try.underlying24 hi hz0 hz1 hz2 rfl (by decide) o3 (A ++ E1).length ((A ++ E1).map u8v) rfl HO.out (enc fn).length ((enc fn).map u8v) u4 rfl HU.out HL63.out HLB.out HG.out.size ?_; intro o5 w5 hown hgr; have HB' := Lib.hid (grown_block HO.out HB.out (by decide) hgr); have HG' := Lib.hid (grown_all HO.out HG.out hgr); have HO' := Lib.hid (own_join hown); clear hown hgr HO HB HG HL63 HLB; have HO := HO'; have HB := HB'; have HG := HG'; clear HO' HB' HG'; obtain ⟨d0, d1, d2, d3⟩ := cells4f HB.out))
          exact ⟨⟨k + 1, _, by omega, rfl, by simp, Lib.hid (fun i g hi hg => (Nat.lt_succ_iff_lt_or_eq.1 hi).elim (fun h => HOK.out i g h hg) (fun h => by subst h; exact HOKK.out g hg)), Lib.hid (by rw [HFL.out, HW0.out, ← List.append_assoc]; exact HO.out), HG⟩, by simp only [intOf]; omega⟩
        · have HW0 : Hid (wrB ⟨num, 1, fn, bs⟩ = E1 ++ lowL fn 8) := HWB0
          go_wp2_with fail
          refine (bytes_oneI _ (_) _ (heap_new _ _ _ rfl) (by omega) (by omega)).mono ?_
          rintro _ w2 ⟨u2, rfl, hu, hg⟩
          have hu1 : NumsAt .u8 w2 u2 E1 := by
            have h := hu
            rw [HE1.out _ (by omega)] at h
            exact h
          have HU := Lib.hid (nums_row hu1)
          clear hu1
          have HO' := Lib.hid (ownsRow_later (ownsRow_later HO.out (Grows.alloc _ _)) hg)
          have HB' := Lib.hid (hg.block ((Grows.alloc _ _).block HB.out))
          have HG' := Lib.hid ((HG.out.al _).trans hg)
          clear hu hg HO HB HG
          have HO := HO'
          have HB := HB'
          have HG := HG'
          clear HO' HB' HG'
          try clear d0 d1 d2 d3
          obtain ⟨d0, d1, d2, d3⟩ := cells4f HB.out
          have HL63 : Hid ((A).length + (E1).length ≤ maxLen) := Lib.hid (by have := HAL.out; have := HEL.out; (try simp only [List.length_append]); unfold maxLen; omega)
          have HLB : Hid (((A).length + (E1).length) * 1 ≤ 140737488355328) := Lib.hid (by have := HAL.out; have := HEL.out; (try simp only [List.length_append]); omega)
          go_wp2_with (at_builtin; go_loud (refine append_row2 rfl _ _ 24 rfl w.heap.size 5 i0 (.int .u8 0) 1 1 Try.underlying24 hi hz0 hz1 hz2 rfl (by decide) o (A).length ((A).map u8v) rfl HO.out (E1).length ((E1).map u8v) u2 rfl HU.out HL63.out HLB.out HG.out.size ?_; intro o3 w3 hown hgr; have HB' := Lib.hid (grown_block HO.out HB.out (by decide) hgr); have HG' := Lib.hid (grown_all HO.out HG.out hgr); have HO' := Lib.hid (own_join hown); clear hown hgr HO HB HG HL63 HLB; have HO := HO'; have HB := HB'; have HG := HG'; clear HO' HB' HG'; obtain ⟨d0, d1, d2, d3⟩ := cells4f HB.out))
          have HWD := Lib.hid (fun w => width_any 1 w)
          simp only [show (if ((1 : Int)) = 1 then (8 : Int) else 4) = 8 from rfl] at HWD
          have HLO := Lib.hid (fun w => low_eight fn w HFNN.out)
          have CF : Hid (∀ w', Grows w3 w' → _) := Lib.hid (fun w' hg => cells4f (hg.block HB.out))
          clear d0 d2 d3
          go_wp2_with fail
          refine wp_region_tab 7 (by kernel_rfl) (by kernel_rfl) ?_
          intro w0 hw0 hg1 hg1'
          simp only [List.take_succ_cons, List.take_zero, List.drop_succ_cons, List.drop_zero]
          refine tab_val (o3) (fun r w1x hr hg hA => by obtain ⟨q0, -⟩ := hA; have q0e : r (.tmp 4) = o3 := q0; exact ⟨rfl, by simp [go_sem, q0e]⟩) ?_
          refine tab_val (.pointer (some ⟨wr.heap.size, 2, none⟩)) (fun r w1x hr hg hA => by obtain ⟨q0, -⟩ := hA; have q0e : r (.tmp 6) = .pointer (some ⟨wr.heap.size, 0, none⟩) := q0; exact ⟨rfl, by simp [go_sem, q0e]⟩) ?_
          refine tab_val (.int .u64 (fn : Int)) (fun r w1x hr hg hA => by obtain ⟨⟨_, q0⟩, -⟩ := hA; have q0e : r (.tmp 44) = .pointer (some ⟨wr.heap.size, 2, none⟩) := q0; have hc := CF.out w1x (hg1.trans hg); exact ⟨rfl, by simp [go_sem, q0e, hc]⟩) ?_
          refine tab_val (.pointer (some ⟨wr.heap.size, 1, none⟩)) (fun r w1x hr hg hA => by obtain ⟨q0, -⟩ := hA; have q0e : r (.tmp 6) = .pointer (some ⟨wr.heap.size, 0, none⟩) := q0; exact ⟨rfl, by simp [go_sem, q0e]⟩) ?_
          refine tab_val (.int .i64 1) (fun r w1x hr hg hA => by obtain ⟨⟨_, q0⟩, -⟩ := hA; have q0e : r (.tmp 46) = .pointer (some ⟨wr.heap.size, 1, none⟩) := q0; have hc := CF.out w1x (hg1.trans hg); exact ⟨rfl, by simp [go_sem, q0e, hc]⟩) ?_
          refine tab_call (v := .int .i64 8) (fun w1x hg => HWD.out w1x) (fun r w1x hr hg hA => by obtain ⟨⟨_, q0⟩, -⟩ := hA; have q0e : r (.tmp 47) = .int .i64 1 := q0; exact ⟨rfl, by simp [go_sem, hr.func, q0e]⟩) ?_
          refine tab_callQ (f := 24) (fun v w => RowAt 1 w v (lowL fn 8).length ((lowL fn 8).map u8v)) (fun v w w' h hg => row_later h hg) (fun r w1x hr hg hA => by obtain ⟨⟨_, q0⟩, ⟨_, q1⟩, -⟩ := hA; have q0e : r (.tmp 45) = .int .u64 (fn : Int) := q0; have q1e : r (.tmp 48) = .int .i64 8 := q1; exact ⟨rfl, #[.int .u64 (fn : Int), .int .i64 8], by simp [go_sem, hr.func, q0e, q1e], (HLO.out w1x).mono fun e w' ⟨u, he, ho, hgg⟩ => ⟨u, he, own_row ho, hgg⟩⟩) ?_
          refine tab_end ?_
          simp only [List.reverse_cons, List.reverse_nil, List.nil_append, List.cons_append, Out, BlockP, forall_eq, forall_const, Act.put, List.setIfInBounds_toArray, List.set_cons_succ, List.set_cons_zero]
          intro w4 hgA u4 hU
          have HU := Lib.hid hU
          have HO' := Lib.hid (ownsRow_later HO.out (hg1.trans hgA))
          have HB' := Lib.hid ((hg1.trans hgA).block HB.out)
          have HG' := Lib.hid (HG.out.trans (hg1.trans hgA))
          clear hU hg1 hgA hg1' hw0 HO HB HG CF d1
          have HO := HO'
          have HB := HB'
          have HG := HG'
          clear HO' HB' HG'
          have HL63 : Hid ((A ++ E1).length + (lowL fn 8).length ≤ maxLen) := Lib.hid (by have := HAL.out; have := HEL.out; (try simp only [List.length_append]); unfold maxLen; omega)
          have HLB : Hid (((A ++ E1).length + (lowL fn 8).length) * 1 ≤ 140737488355328) := Lib.hid (by have := HAL.out; have := HEL.out; (try simp only [List.length_append]); omega)
          go_wp2_with (at_builtin; go_loud (refine append_row2 rfl _ _ 24 rfl w.heap.size 5 i0 (.int .u8 0) 1 1 Try.underlying24 hi hz0 hz1 hz2 rfl (by decide) o3 (A ++ E1).length ((A ++ E1).map u8v) rfl HO.out (lowL fn 8).length ((lowL fn 8).map u8v) u4 rfl HU.out HL63.out HLB.out HG.out.size ?_; intro o5 w5 hown hgr; have HB' := Lib.hid (grown_block HO.out HB.out (by decide) hgr); have HG' := Lib.hid (grown_all HO.out HG.out hgr); have HO' := Lib.hid (own_join hown); clear hown hgr HO HB HG HL63 HLB; have HO := HO'; have HB := HB'; have HG := HG'; clear HO' HB' HG'; obtain ⟨d0, d1, d2, d3⟩ := cells4f HB.out))
          exact ⟨⟨k + 1, _, by omega, rfl, by simp, Lib.hid (fun i g hi hg => (Nat.lt_succ_iff_lt_or_eq.1 hi).elim (fun h => HOK.out i g h hg) (fun h => by subst h; exact HOKK.out g hg)), Lib.hid (by rw [HFL.out, HW0.out, ← List.append_assoc]; exact HO.out), HG⟩, by simp only [intOf]; omega⟩
        · have HW0 : Hid (wrB ⟨num, 2, fn, bs⟩ = E1 ++ (enc ln ++ bs)) := HWB0
          have hl9 : ln ≤ 1000 := HLN9.out
          go_wp2_with fail
          refine (bytes_oneI _ (_) _ (heap_new _ _ _ rfl) (by omega) (by omega)).mono ?_
          rintro _ w2 ⟨u2, rfl, hu, hg⟩
          have hu1 : NumsAt .u8 w2 u2 E1 := by
            have h := hu
            rw [HE1.out _ (by omega)] at h
            exact h
          have HU := Lib.hid (nums_row hu1)
          clear hu1
          have HO' := Lib.hid (ownsRow_later (ownsRow_later HO.out (Grows.alloc _ _)) hg)
          have HB' := Lib.hid (hg.block ((Grows.alloc _ _).block HB.out))
          have HG' := Lib.hid ((HG.out.al _).trans hg)
          clear hu hg HO HB HG
          have HO := HO'
          have HB := HB'
          have HG := HG'
          clear HO' HB' HG'
          try clear d0 d1 d2 d3
          obtain ⟨d0, d1, d2, d3⟩ := cells4f HB.out
          have HL63 : Hid ((A).length + (E1).length ≤ maxLen) := Lib.hid (by have := HAL.out; have := HEL.out; (try simp only [List.length_append]); unfold maxLen; omega)
          have HLB : Hid (((A).length + (E1).length) * 1 ≤ 140737488355328) := Lib.hid (by have := HAL.out; have := HEL.out; (try simp only [List.length_append]); omega)
          go_wp2_with (at_builtin; go_loud (refine append_row2 rfl _ _ 24 rfl w.heap.size 5 i0 (.int .u8 0) 1 1 Try.underlying24 hi hz0 hz1 hz2 rfl (by decide) o (A).length ((A).map u8v) rfl HO.out (E1).length ((E1).map u8v) u2 rfl HU.out HL63.out HLB.out HG.out.size ?_; intro o3 w3 hown hgr; have HB' := Lib.hid (grown_block HO.out HB.out (by decide) hgr); have HG' := Lib.hid (grown_all HO.out HG.out hgr); have HO' := Lib.hid (own_join hown); clear hown hgr HO HB HG HL63 HLB; have HO := HO'; have HB := HB'; have HG := HG'; clear HO' HB' HG'; obtain ⟨d0, d1, d2, d3⟩ := cells4f HB.out))
          clear d0 d1 d2 d3
          obtain ⟨d0, d1, d2, d3⟩ := cells4f HB.out
          go_wp2_with fail
          refine (bytes_oneI _ ((ln : Int)) _ (heap_new _ _ _ rfl) (Int.natCast_nonneg ln) (by have := HLN9.out; omega)).mono ?_
          rintro _ w4 ⟨u4, rfl, hu, hg⟩
          have HU := Lib.hid (nums_row hu)
          have HO' := Lib.hid (ownsRow_later (ownsRow_later HO.out (Grows.alloc _ _)) hg)
          have HB' := Lib.hid (hg.block ((Grows.alloc _ _).block HB.out))
          have HG' := Lib.hid ((HG.out.al _).trans hg)
          clear hu hg HO HB HG
          have HO := HO'
          have HB := HB'
          have HG := HG'
          clear HO' HB' HG'
          try clear d0 d1 d2 d3
          obtain ⟨d0, d1, d2, d3⟩ := cells4f HB.out
          have HL63 : Hid ((A ++ E1).length + (enc ln).length ≤ maxLen) := Lib.hid (by have := HAL.out; have := HEL.out; (try simp only [List.length_append]); unfold maxLen; omega)
          have HLB : Hid (((A ++ E1).length + (enc ln).length) * 1 ≤ 140737488355328) := Lib.hid (by have := HAL.out; have := HEL.out; (try simp only [List.length_append]); omega)
          have HM63 : Hid (((A ++ E1) ++ enc ln).length + (bs).length ≤ maxLen) := Lib.hid (by have := HAL.out; have := HEL.out; (try simp only [List.length_append]); unfold maxLen; omega)
          have HMB : Hid ((((A ++ E1) ++ enc ln).length + (bs).length) * 1 ≤ 140737488355328) := Lib.hid (by have := HAL.out; have := HEL.out; (try simp only [List.length_append]); omega)
          go_wp2_with (at_builtin; first | ((refine append_row2 rfl _ _ 24 rfl w.heap.size 5 i0 (.int .u8 0) 1 1 Try.underlying24 hi hz0 hz1 hz2 rfl (by decide) o5 ((A ++ E1) ++ enc ln).length (((A ++ E1) ++ enc ln).map u8v) rfl HO.out (bs).length ((bs).map u8v) (.slice av ln cv) rfl (nums_row (HBS.out _ HG.out)) HM63.out HMB.out HG.out.size ?_; intro o6 w6 hown hgr; have HB' := Lib.hid (grown_block HO.out HB.out (by decide) hgr); have HG' := Lib.hid (grown_all HO.out HG.out hgr); have HO' := Lib.hid (own_join hown); clear hown hgr HO HB HG HM63 HMB; have HO := HO'; have HB := HB'; have HG := HG'; clear HO' HB' HG'; obtain ⟨d0, d1, d2, d3⟩ := cells4f HB.out)) | (go_loud (refine append_row2 rfl _ _ 24 rfl w.heap.size 5 i0 (.int .u8 0) 1 1 Try.underlying24 hi hz0 hz1 hz2 rfl (by decide) o3 (A ++ E1).length ((A ++ E1).map u8v) rfl HO.out (enc ln).length ((enc ln).map u8v) u4 rfl HU.out HL63.out HLB.out HG.out.size ?_; intro o5 w5 hown hgr; have HB' := Lib.hid (grown_block HO.out HB.out (by decide) hgr); have HG' := Lib.hid (grown_all HO.out HG.out hgr); have HO' := Lib.hid (own_join hown); clear hown hgr HO HB HG HL63 HLB; have HO := HO'; have HB := HB'; have HG := HG'; clear HO' HB' HG'; obtain ⟨d0, d1, d2, d3⟩ := cells4f HB.out)))
          exact ⟨⟨k + 1, _, by omega, rfl, by simp, Lib.hid (fun i g hi hg => (Nat.lt_succ_iff_lt_or_eq.1 hi).elim (fun h => HOK.out i g h hg) (fun h => by subst h; exact HOKK.out g hg)), Lib.hid (by rw [HFL.out, HW0.out, ← List.append_assoc, ← List.append_assoc]; exact HO.out), HG⟩, by simp only [intOf]; omega⟩
        · have HW0 : Hid (wrB ⟨num, 5, fn, bs⟩ = E1 ++ lowL fn 4) := HWB0
          go_wp2_with fail
          refine (bytes_oneI _ (_) _ (heap_new _ _ _ rfl) (by omega) (by omega)).mono ?_
          rintro _ w2 ⟨u2, rfl, hu, hg⟩
          have hu1 : NumsAt .u8 w2 u2 E1 := by
            have h := hu
            rw [HE1.out _ (by omega)] at h
            exact h
          have HU := Lib.hid (nums_row hu1)
          clear hu1
          have HO' := Lib.hid (ownsRow_later (ownsRow_later HO.out (Grows.alloc _ _)) hg)
          have HB' := Lib.hid (hg.block ((Grows.alloc _ _).block HB.out))
          have HG' := Lib.hid ((HG.out.al _).trans hg)
          clear hu hg HO HB HG
          have HO := HO'
          have HB := HB'
          have HG := HG'
          clear HO' HB' HG'
          try clear d0 d1 d2 d3
          obtain ⟨d0, d1, d2, d3⟩ := cells4f HB.out
          have HL63 : Hid ((A).length + (E1).length ≤ maxLen) := Lib.hid (by have := HAL.out; have := HEL.out; (try simp only [List.length_append]); unfold maxLen; omega)
          have HLB : Hid (((A).length + (E1).length) * 1 ≤ 140737488355328) := Lib.hid (by have := HAL.out; have := HEL.out; (try simp only [List.length_append]); omega)
          go_wp2_with (at_builtin; go_loud (refine append_row2 rfl _ _ 24 rfl w.heap.size 5 i0 (.int .u8 0) 1 1 Try.underlying24 hi hz0 hz1 hz2 rfl (by decide) o (A).length ((A).map u8v) rfl HO.out (E1).length ((E1).map u8v) u2 rfl HU.out HL63.out HLB.out HG.out.size ?_; intro o3 w3 hown hgr; have HB' := Lib.hid (grown_block HO.out HB.out (by decide) hgr); have HG' := Lib.hid (grown_all HO.out HG.out hgr); have HO' := Lib.hid (own_join hown); clear hown hgr HO HB HG HL63 HLB; have HO := HO'; have HB := HB'; have HG := HG'; clear HO' HB' HG'; obtain ⟨d0, d1, d2, d3⟩ := cells4f HB.out))
          have HWD := Lib.hid (fun w => width_any 5 w)
          simp only [show (if ((5 : Int)) = 1 then (8 : Int) else 4) = 4 from rfl] at HWD
          have HLO := Lib.hid (fun w => low_four fn w HFNN.out)
          have CF : Hid (∀ w', Grows w3 w' → _) := Lib.hid (fun w' hg => cells4f (hg.block HB.out))
          clear d0 d2 d3
          go_wp2_with fail
          refine wp_region_tab 7 (by kernel_rfl) (by kernel_rfl) ?_
          intro w0 hw0 hg1 hg1'
          simp only [List.take_succ_cons, List.take_zero, List.drop_succ_cons, List.drop_zero]
          refine tab_val (o3) (fun r w1x hr hg hA => by obtain ⟨q0, -⟩ := hA; have q0e : r (.tmp 4) = o3 := q0; exact ⟨rfl, by simp [go_sem, q0e]⟩) ?_
          refine tab_val (.pointer (some ⟨wr.heap.size, 2, none⟩)) (fun r w1x hr hg hA => by obtain ⟨q0, -⟩ := hA; have q0e : r (.tmp 6) = .pointer (some ⟨wr.heap.size, 0, none⟩) := q0; exact ⟨rfl, by simp [go_sem, q0e]⟩) ?_
          refine tab_val (.int .u64 (fn : Int)) (fun r w1x hr hg hA => by obtain ⟨⟨_, q0⟩, -⟩ := hA; have q0e : r (.tmp 44) = .pointer (some ⟨wr.heap.size, 2, none⟩) := q0; have hc := CF.out w1x (hg1.trans hg); exact ⟨rfl, by simp [go_sem, q0e, hc]⟩) ?_
          refine tab_val (.pointer (some ⟨wr.heap.size, 1, none⟩)) (fun r w1x hr hg hA => by obtain ⟨q0, -⟩ := hA; have q0e : r (.tmp 6) = .pointer (some ⟨wr.heap.size, 0, none⟩) := q0; exact ⟨rfl, by simp [go_sem, q0e]⟩) ?_
          refine tab_val (.int .i64 5) (fun r w1x hr hg hA => by obtain ⟨⟨_, q0⟩, -⟩ := hA; have q0e : r (.tmp 46) = .pointer (some ⟨wr.heap.size, 1, none⟩) := q0; have hc := CF.out w1x (hg1.trans hg); exact ⟨rfl, by simp [go_sem, q0e, hc]⟩) ?_
          refine tab_call (v := .int .i64 4) (fun w1x hg => HWD.out w1x) (fun r w1x hr hg hA => by obtain ⟨⟨_, q0⟩, -⟩ := hA; have q0e : r (.tmp 47) = .int .i64 5 := q0; exact ⟨rfl, by simp [go_sem, hr.func, q0e]⟩) ?_
          refine tab_callQ (f := 24) (fun v w => RowAt 1 w v (lowL fn 4).length ((lowL fn 4).map u8v)) (fun v w w' h hg => row_later h hg) (fun r w1x hr hg hA => by obtain ⟨⟨_, q0⟩, ⟨_, q1⟩, -⟩ := hA; have q0e : r (.tmp 45) = .int .u64 (fn : Int) := q0; have q1e : r (.tmp 48) = .int .i64 4 := q1; exact ⟨rfl, #[.int .u64 (fn : Int), .int .i64 4], by simp [go_sem, hr.func, q0e, q1e], (HLO.out w1x).mono fun e w' ⟨u, he, ho, hgg⟩ => ⟨u, he, own_row ho, hgg⟩⟩) ?_
          refine tab_end ?_
          simp only [List.reverse_cons, List.reverse_nil, List.nil_append, List.cons_append, Out, BlockP, forall_eq, forall_const, Act.put, List.setIfInBounds_toArray, List.set_cons_succ, List.set_cons_zero]
          intro w4 hgA u4 hU
          have HU := Lib.hid hU
          have HO' := Lib.hid (ownsRow_later HO.out (hg1.trans hgA))
          have HB' := Lib.hid ((hg1.trans hgA).block HB.out)
          have HG' := Lib.hid (HG.out.trans (hg1.trans hgA))
          clear hU hg1 hgA hg1' hw0 HO HB HG CF d1
          have HO := HO'
          have HB := HB'
          have HG := HG'
          clear HO' HB' HG'
          have HL63 : Hid ((A ++ E1).length + (lowL fn 4).length ≤ maxLen) := Lib.hid (by have := HAL.out; have := HEL.out; (try simp only [List.length_append]); unfold maxLen; omega)
          have HLB : Hid (((A ++ E1).length + (lowL fn 4).length) * 1 ≤ 140737488355328) := Lib.hid (by have := HAL.out; have := HEL.out; (try simp only [List.length_append]); omega)
          go_wp2_with (at_builtin; go_loud (refine append_row2 rfl _ _ 24 rfl w.heap.size 5 i0 (.int .u8 0) 1 1 Try.underlying24 hi hz0 hz1 hz2 rfl (by decide) o3 (A ++ E1).length ((A ++ E1).map u8v) rfl HO.out (lowL fn 4).length ((lowL fn 4).map u8v) u4 rfl HU.out HL63.out HLB.out HG.out.size ?_; intro o5 w5 hown hgr; have HB' := Lib.hid (grown_block HO.out HB.out (by decide) hgr); have HG' := Lib.hid (grown_all HO.out HG.out hgr); have HO' := Lib.hid (own_join hown); clear hown hgr HO HB HG HL63 HLB; have HO := HO'; have HB := HB'; have HG := HG'; clear HO' HB' HG'; obtain ⟨d0, d1, d2, d3⟩ := cells4f HB.out))
          exact ⟨⟨k + 1, _, by omega, rfl, by simp, Lib.hid (fun i g hi hg => (Nat.lt_succ_iff_lt_or_eq.1 hi).elim (fun h => HOK.out i g h hg) (fun h => by subst h; exact HOKK.out g hg)), Lib.hid (by rw [HFL.out, HW0.out, ← List.append_assoc]; exact HO.out), HG⟩, by simp only [intOf]; omega⟩
      · have b3 : (chkI num kind fn ln != 0) = true := by simpa using he
        have HBD := Lib.hid (HBAD.out (by rw [HOF.out]; exact he))
        generalize chkI num kind fn ln = e at HCK b3 HOF
        clear he HBAD HZ
        go_wp2_with fail
        refine (HCK.out _).mono ?_
        rintro _ w1 ⟨rfl, hg⟩
        have HG1 := Lib.hid ((HG.out.al _).trans hg)
        clear hg
        go_wp2
        go_ret2
        refine ⟨.slice none 0 0, ?_, by rw [HBD.out]; exact nums_nil _, HG1.out⟩
        rw [HBD.out]
        show Ending.returned (.tuple #[.slice none 0 0, .int .i64 e]) = Ending.returned (.tuple #[.slice none 0 0, .int .i64 (okF _)])
        rw [HOF.out]
    · obtain rfl : k = n := by omega
      have HW := Lib.hid (wrF_ok (fs := fs) (fun i g hi hg => HOK.out i g (by rw [HN.out]; exact hi) hg))
      have HAL := Lib.hid (flat_len HFO.out k HOK.out)
      go_wp2
      go_ret2
      rw [HW.out]
      refine ⟨o, rfl, ?_, HG.out⟩
      have h1 := HO.out
      have h2 := HAL.out
      rw [List.take_of_length_le (by rw [HN.out]; exact Nat.le_refl _)] at h1 h2
      exact ownsRow_nums h1 (by show (fs.flatMap wrB).length ≤ _; omega)
end Go.Proofs.Ytdiciboaehdckaa
