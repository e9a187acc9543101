/-
  Layer 5: the law on whatever is pushed, popped and dropped.
-/
import Derived.Test.YtcmlcoedgfehgaaH20
import Derived.Deep.DeepCutAuto
import Derived.Deep.CutRange
import Derived.Deep.CutBlock
namespace Go.Proofs.Ytcmlcoedgfehgaa
open Go.RowKit Go.Tab Go.WideShapes

/-- A new row that reads as these entries. -/
def PV (N : List Ent3) (S : Nat) (v : Value) (w : World) : Prop := ∃ a c, v = .slice a N.length c ∧ N.length ≤ c ∧ EntsAt w v N ∧ ∀ g, v.ownBlock = some g → S ≤ g
theorem PV.up {N : List Ent3} {S : Nat} (v : Value) (w w' : World) (h : PV N S v w) (hg : Grows w w') : PV N S v w' := by
  obtain ⟨a, c, h1, h2, h3, h4⟩ := h
  exact ⟨a, c, h1, h2, h3.grows hg, h4⟩
theorem rpush_PV (u : Value) (M : List Ent3) (e : Ent3) (w : World) (S : Nat) (hu : EntsAt w u M) (hM : M.length ≤ 999) (hS : S ≤ w.heap.size) :
    Calls Try.prog 9 #[u, en e] w (fun r w' => ∃ v, r = .returned v ∧ PV (insE M e) S v w' ∧ Grows w w') := by
  obtain ⟨a, c, rfl, hc, _⟩ := hu.shape
  refine (rpush_any a M.length c M e w hu rfl hc (by omega)).mono ?_
  rintro _ w' ⟨v, rfl, hown, hg⟩
  have he := own_ents hown rfl (by rw [(insE_perm M e).length_eq, List.length_cons]; omega)
  obtain ⟨a', c', hv, hc', _⟩ := he.shape
  exact ⟨v, rfl, ⟨a', c', hv, hc', he, fun g hg' => Nat.le_trans hS (own_lt hown hg').1⟩, hg⟩

set_option maxRecDepth 100000 in
set_option maxHeartbeats 16000000 in
theorem law_plays (a : Option Addr) (n c : Nat) (V : Nat → Nat → Int) (w : World) (hnc : n ≤ c) (hc : c ≤ 9223372036854775807) (HA : Hid (ActsAt w a n V)) :
    Calls Try.prog 3 #[.slice a n c] w (Ret (.bool true) w) := by
  have H0 : Hid (HeapAt (w.alloc (.cells #[.slice none 0 0] 27)) w.heap.size w.heap.size (.slice none 0 0) []) := Lib.hid
    ⟨heap_new _ _ _ rfl, ⟨rfl, .inl ⟨rfl, rfl⟩⟩, (fun h => by cases h), by simp only [World.size_alloc]; omega⟩
  go_enter Try.func3, Try.ntmps3
  go_wp2
  go_loopw [4, 5] (fun m i wr => ∃ (k : Nat) (am : Option Addr) (cm : Nat) (L : List Ent3) (v : Value), i = iv k ∧ m = .slice am L.length cm ∧ k ≤ n ∧ k ≤ 80 ∧ L.length ≤ 2 * k ∧ L.length ≤ cm ∧ EntsAt wr (.slice am L.length cm) (srtE L) ∧ Heap L ∧ HeapAt wr w.heap.size w.heap.size v L ∧ Far (.slice am L.length cm) (srtE L) w.heap.size v ∧ Grows w wr) (fun _ i _ => 81 - (intOf i).toNat)
  case atStart => exact ⟨0, none, 0, [], .slice none 0 0, rfl, rfl, Nat.zero_le _, Nat.zero_le _, Nat.zero_le _, Nat.zero_le _, ents_nil _, heap_nil, H0.out, .inl rfl, (Grows.refl w).al _⟩
  case round =>
    obtain ⟨k, am, cm, L, v, rfl, rfl, hkn, hk80, hL2, hLc, he, hh, hat, hf, hg⟩ := hrel
    have E := Lib.hid he
    have HH := Lib.hid hh
    have HT := Lib.hid hat
    have F := Lib.hid hf
    have G := Lib.hid hg
    clear he hh hat hf hg H0
    obtain ⟨wo, rfl⟩ : ∃ wo : World, wo = wr := ⟨_, rfl⟩
    by_cases hlt : k < n ∧ k < 80
    · obtain ⟨hlt, hlt8⟩ := hlt
      obtain ⟨b, off, rfl, hb, hc7⟩ : ∃ b off, a = some ⟨b, off, none⟩ ∧ b < w.heap.size ∧ ∀ j, j < 7 → w.cell? ⟨b, off + k * 7 + j, none⟩ = some (.int .i64 (V k j)) := by
        rcases HA.out with h0 | ⟨b, off, h1, h2, h3⟩
        · omega
        · exact ⟨b, off, h1, h2, fun j hj => h3 k hlt j hj⟩
      have HC : ∀ j, j < 7 → wo.cell? ⟨b, off + k * 7 + j, none⟩ = some (.int .i64 (V k j)) := fun j hj => (Below.cell G.out hb).trans (hc7 j hj)
      have q0 := HC 0 (by decide)
      have q1 := HC 1 (by decide)
      have q2 := HC 2 (by decide)
      have q3 := HC 3 (by decide)
      have q4 := HC 4 (by decide)
      have q5 := HC 5 (by decide)
      have q6 := HC 6 (by decide)
      simp only [Nat.add_zero] at q0
      clear hc7 HC
      generalize V k 0 = kind at q0
      generalize V k 1 = xa at q1
      generalize V k 2 = xb at q2
      generalize V k 3 = xc at q3
      generalize V k 4 = ya at q4
      generalize V k 5 = yb at q5
      generalize V k 6 = yc at q6
      have hL160 : L.length ≤ 160 := by omega
      have d8 : decide ((k : Int) < 80) = true := by simp; omega
      go_upto_block 2 with (fail)
      go_cut [4] from 15 to 154 (fun m w' => ∃ (am : Option Addr) (cm : Nat) (L' : List Ent3) (v' : Value), m = .slice am L'.length cm ∧ L'.length ≤ L.length + 2 ∧ L'.length ≤ cm ∧ EntsAt w' (.slice am L'.length cm) (srtE L') ∧ Heap L' ∧ HeapAt w' w.heap.size w.heap.size v' L' ∧ Far (.slice am L'.length cm) (srtE L') w.heap.size v' ∧ w'.heap[wo.heap.size]? = some (.cells #[.int .i64 kind, .int .i64 xa, .int .i64 xb, .int .i64 xc, .int .i64 ya, .int .i64 yb, .int .i64 yc] 32 (0, 0)) ∧ Grows w w')
      case first =>
        have HB0 := heap_new wo (.cells #[.int .i64 kind, .int .i64 xa, .int .i64 xb, .int .i64 xc, .int .i64 ya, .int .i64 yb, .int .i64 yc] 32) _ rfl
        have HB := Lib.hid HB0
        have GA := (Grows.refl wo).al (.cells #[.int .i64 kind, .int .i64 xa, .int .i64 xb, .int .i64 xc, .int .i64 ya, .int .i64 yb, .int .i64 yc] 32)
        have E := Lib.hid (E.out.grows GA)
        have HVW : Hid (∀ g, v.ownBlock = some g → g ≠ wo.heap.size) := Lib.hid fun g hg => by have := (own_lt HT.out.own hg).2; omega
        have HT := Lib.hid (HT.out.grows GA)
        have G := Lib.hid (G.out.trans GA)
        have hne : ¬ wo.heap.size = w.heap.size := by have := HT.out.base; have := HT.out.lt; intro he; have h1 := HT.out.blk; rw [← he, HB0] at h1; cases h1
        clear HB0 GA q0 q1 q2 q3 q4 q5 q6
        generalize wo.alloc (.cells #[.int .i64 kind, .int .i64 xa, .int .i64 xb, .int .i64 xc, .int .i64 ya, .int .i64 yb, .int .i64 yc] 32) = w1 at HB E HT G ⊢
        have hbw : wo.heap.size < w1.heap.size := (Array.getElem?_eq_some_iff.1 HB.out).1
        by_cases hk0 : kind = 0
        · subst hk0
          by_cases hL : 0 < L.length
          · have HS := Lib.hid (srtE_heap HH.out hL)
            have HTV : Hid (topV L = .tuple #[en (ge L 0), .bool true]) := Lib.hid (by unfold topV; rw [decide_eq_true hL])
            have HPp := Lib.hid (pop_perm hL)
            go_wp2_with fail
            refine (pop_heap HT.out (by omega)).mono ?_
            rintro _ w2 ⟨rfl, v2, h2, s2⟩
            rw [HTV.out]
            have HL4 : Hid (L.length - 1 = (popF L).length) := Lib.hid (by have := HPp.out.length_eq; rw [List.length_cons] at this; omega)
            have E2 := Lib.hid (E.out.step s2 F.out)
            have F2 := Lib.hid (F.out.step E.out s2)
            have B2 := Lib.hid ((s2.keep.block wo.heap.size hbw hne (fun he => HVW.out _ he rfl)).trans HB.out)
            have G2 := Lib.hid (s2.below G.out (Nat.le_refl _) (fun g hg => (own_lt HT.out.own hg).1))
            have H2 := Lib.hid h2
            have HP2 := Lib.hid (pop_heapF HH.out)
            clear h2 s2 E F HB G HT HTV HH HPp
            have hx0 : (srtE L).getD 0 e0 = ge L 0 := by rw [HS.out]; rfl
            obtain ⟨bm, om, rfl, hbm, _⟩ := E2.out.at_ (i := 0) (by rw [srtE_len]; exact hL)
            have CM := Lib.hid (fun w' (hg : Grows w2 w') => (E2.out.grows hg).at_cell (i := 0) (by rw [srtE_len]; exact hL))
            rw [hx0] at CM
            clear hx0
            generalize ge L 0 = ex at CM HS ⊢
            obtain ⟨ea, eb, ec⟩ := ex
            have CX : Hid (∀ w', Grows (w2.alloc (.cells #[.int .i64 ea, .int .i64 eb, .int .i64 ec] 30)) w' → (w'.cell? ⟨w2.heap.size, 0, none⟩ = some (.int .i64 ea) ∧ w'.cell? ⟨w2.heap.size, 1, none⟩ = some (.int .i64 eb) ∧ w'.cell? ⟨w2.heap.size, 2, none⟩ = some (.int .i64 ec)) ∧ w'.cell? ⟨bm, om, none⟩ = some (.int .i64 ea) ∧ w'.cell? ⟨bm, om + 1, none⟩ = some (.int .i64 eb) ∧ w'.cell? ⟨bm, om + 2, none⟩ = some (.int .i64 ec)) := Lib.hid fun w' hg => by
              obtain ⟨k1, k2, k3, _⟩ := cells3 (hg.block (heap_new w2 (.cells #[.int .i64 ea, .int .i64 eb, .int .i64 ec] 30) _ rfl))
              have := CM.out w' (((Grows.refl w2).al _).trans hg)
              simp only [Nat.zero_mul, Nat.add_zero] at this
              exact ⟨⟨k1, k2, k3⟩, this⟩
            have hL0 : (0 : Int) < (L.length : Int) := by omega
            go_wp2_with fail
            refine wp_region_tab 24 (by kernel_rfl) (by kernel_rfl) ?_
            intro w0 hw0 hg1 hg1'
            simp only [List.take_succ_cons, List.take_zero, List.drop_succ_cons, List.drop_zero]
            refine tab_val (.bool true) (fun r w1 hr hg hA => by obtain ⟨q0, -⟩ := hA; have q0e : r (.tmp 8) = .bool true := q0; exact ⟨rfl, by simp [go_sem, q0e]⟩) ?_
            refine tab_val (.slice (some ⟨bm, om, none⟩) L.length cm) (fun r w1 hr hg hA => by obtain ⟨q0, -⟩ := hA; have q0e : r (.tmp 4) = .slice (some ⟨bm, om, none⟩) L.length cm := q0; exact ⟨rfl, by simp [go_sem, q0e]⟩) ?_
            refine tab_val (iv L.length) (fun r w1 hr hg hA => by obtain ⟨⟨_, q0⟩, -⟩ := hA; have q0e : r (.tmp 54) = .slice (some ⟨bm, om, none⟩) L.length cm := q0; exact ⟨rfl, by simp [go_sem, q0e]⟩) ?_
            refine tab_val (.bool true) (fun r w1 hr hg hA => by obtain ⟨⟨_, q0⟩, -⟩ := hA; have q0e : r (.tmp 55) = iv L.length := q0; exact ⟨rfl, by simp [go_sem, hr.const, q0e, hL0, hL]⟩) ?_
            refine tab_val (.bool false) (fun r w1 hr hg hA => by obtain ⟨⟨_, q0⟩, ⟨_, q1⟩, -⟩ := hA; have q0e : r (.tmp 53) = .bool true := q0; have q1e : r (.tmp 56) = .bool true := q1; exact ⟨rfl, by simp [go_sem, q0e, q1e]⟩) ?_
            refine tab_val (.bool false) (fun r w1 hr hg hA => by obtain ⟨⟨_, q0⟩, -⟩ := hA; have q0e : r (.tmp 57) = .bool false := q0; exact ⟨rfl, by simp [go_sem, q0e]⟩) ?_
            refine tab_val (.bool true) (fun r w1 hr hg hA => by obtain ⟨q0, ⟨_, q1⟩, -⟩ := hA; have q0e : r (.tmp 8) = .bool true := q0; have q1e : r (.tmp 58) = .bool false := q1; exact ⟨⟨_, q1e, rfl⟩, by simp [go_sem, q0e]⟩) ?_
            refine tab_val (.bool true) (fun r w1 hr hg hA => by obtain ⟨⟨_, q0⟩, ⟨_, q1⟩, -⟩ := hA; have q0e : r (.tmp 59) = .bool true := q0; have q1e : r (.tmp 58) = .bool false := q1; exact ⟨⟨_, q1e, rfl⟩, by simp [go_sem, q0e]⟩) ?_
            refine tab_val (en (ea, eb, ec)) (fun r w1 hr hg hA => by obtain ⟨q0, ⟨_, q1⟩, -⟩ := hA; have q0e : r (.tmp 7) = .pointer (some ⟨w2.heap.size, 0, none⟩) := q0; have q1e : r (.tmp 60) = .bool true := q1; have hc := CX.out _ (hg1.trans hg); exact ⟨⟨_, q1e, rfl⟩, by simp [go_sem, q0e, hc]⟩) ?_
            refine tab_val (.slice (some ⟨bm, om, none⟩) L.length cm) (fun r w1 hr hg hA => by obtain ⟨q0, ⟨_, q1⟩, -⟩ := hA; have q0e : r (.tmp 4) = .slice (some ⟨bm, om, none⟩) L.length cm := q0; have q1e : r (.tmp 60) = .bool true := q1; exact ⟨⟨_, q1e, rfl⟩, by simp [go_sem, q0e]⟩) ?_
            refine tab_val (.pointer (some ⟨bm, om, none⟩)) (fun r w1 hr hg hA => by obtain ⟨⟨_, q0⟩, ⟨_, q1⟩, -⟩ := hA; have q0e : r (.tmp 62) = .slice (some ⟨bm, om, none⟩) L.length cm := q0; have q1e : r (.tmp 60) = .bool true := q1; exact ⟨⟨_, q1e, rfl⟩, by simp [go_sem, hr.const, q0e, hL0, hL]⟩) ?_
            refine tab_val (en (ea, eb, ec)) (fun r w1 hr hg hA => by obtain ⟨⟨_, q0⟩, ⟨_, q1⟩, -⟩ := hA; have q0e : r (.tmp 63) = .pointer (some ⟨bm, om, none⟩) := q0; have q1e : r (.tmp 60) = .bool true := q1; have hc := CX.out _ (hg1.trans hg); exact ⟨⟨_, q1e, rfl⟩, by simp [go_sem, q0e, hc]⟩) ?_
            refine tab_val (.bool false) (fun r w1 hr hg hA => by obtain ⟨⟨_, q0⟩, ⟨_, q1⟩, ⟨_, q2⟩, -⟩ := hA; have q0e : r (.tmp 61) = en (ea, eb, ec) := q0; have q1e : r (.tmp 64) = en (ea, eb, ec) := q1; have q2e : r (.tmp 60) = .bool true := q2; exact ⟨⟨_, q2e, rfl⟩, by simp [go_sem, q0e, q1e, hL]⟩) ?_
            refine tab_val (.bool false) (fun r w1 hr hg hA => by obtain ⟨⟨_, q0⟩, ⟨_, q1⟩, ⟨_, q2⟩, -⟩ := hA; have q0e : r (.tmp 60) = .bool true := q0; have q1e : r (.tmp 65) = .bool false := q1; have q2e : r (.tmp 58) = .bool false := q2; exact ⟨⟨_, q2e, rfl⟩, by simp [go_sem, q0e, q1e]⟩) ?_
            refine tab_val (.bool false) (fun r w1 hr hg hA => by obtain ⟨⟨_, q0⟩, ⟨_, q1⟩, -⟩ := hA; have q0e : r (.tmp 58) = .bool false := q0; have q1e : r (.tmp 66) = .bool false := q1; exact ⟨rfl, by simp [go_sem, q0e, q1e]⟩) ?_
            refine tab_val (.bool false) (fun r w1 hr hg hA => by obtain ⟨⟨_, q0⟩, -⟩ := hA; have q0e : r (.tmp 67) = .bool false := q0; exact ⟨rfl, by simp [go_sem, q0e]⟩) ?_
            refine tab_val (.bool true) (fun r w1 hr hg hA => by obtain ⟨q0, ⟨_, q1⟩, -⟩ := hA; have q0e : r (.tmp 8) = .bool true := q0; have q1e : r (.tmp 68) = .bool false := q1; exact ⟨⟨_, q1e, rfl⟩, by simp [go_sem, q0e]⟩) ?_
            refine tab_val (.bool false) (fun r w1 hr hg hA => by obtain ⟨⟨_, q0⟩, ⟨_, q1⟩, -⟩ := hA; have q0e : r (.tmp 69) = .bool true := q0; have q1e : r (.tmp 68) = .bool false := q1; exact ⟨⟨_, q1e, rfl⟩, by simp [go_sem, q0e]⟩) ?_
            refine tab_val (.bool false) (fun r w1 hr hg hA => by obtain ⟨⟨_, q0⟩, ⟨_, q1⟩, -⟩ := hA; have q0e : r (.tmp 70) = .bool false := q0; have q1e : r (.tmp 68) = .bool false := q1; exact ⟨⟨_, q1e, rfl⟩, by simp [go_sem, q0e]⟩) ?_
            refine tab_skip (fun r w1 hr hg hA => by obtain ⟨q0, ⟨_, q1⟩, -⟩ := hA; have q0e : r (.tmp 7) = .pointer (some ⟨w2.heap.size, 0, none⟩) := q0; have q1e : r (.tmp 71) = .bool false := q1; exact ⟨_, q1e, rfl⟩) ?_
            refine tab_skip (fun r w1 hr hg hA => by obtain ⟨⟨_, q0⟩, -⟩ := hA; have q0e : r (.tmp 71) = .bool false := q0; exact ⟨_, q0e, rfl⟩) ?_
            refine tab_skip (fun r w1 hr hg hA => by obtain ⟨⟨_, q0⟩, ⟨_, q1⟩, ⟨_, q2⟩, -⟩ := hA; have q0e : r (.tmp 72) = undef := q0; have q1e : r (.tmp 73) = undef := q1; have q2e : r (.tmp 71) = .bool false := q2; exact ⟨_, q2e, rfl⟩) ?_
            refine tab_val (.bool false) (fun r w1 hr hg hA => by obtain ⟨⟨_, q0⟩, ⟨_, q1⟩, ⟨_, q2⟩, -⟩ := hA; have q0e : r (.tmp 71) = .bool false := q0; have q1e : r (.tmp 74) = undef := q1; have q2e : r (.tmp 68) = .bool false := q2; exact ⟨⟨_, q2e, rfl⟩, by simp [go_sem, hr.const, q0e]⟩) ?_
            refine tab_val (.bool false) (fun r w1 hr hg hA => by obtain ⟨⟨_, q0⟩, ⟨_, q1⟩, -⟩ := hA; have q0e : r (.tmp 68) = .bool false := q0; have q1e : r (.tmp 75) = .bool false := q1; exact ⟨rfl, by simp [go_sem, q0e, q1e]⟩) ?_
            refine tab_end ?_
            simp only [List.reverse_cons, List.reverse_nil, List.nil_append, List.cons_append, Out, BlockP, forall_eq, forall_const, Act.put, List.setIfInBounds_toArray, List.set_cons_succ, List.set_cons_zero]
            intro wA hgA
            have GB := Lib.hid (((Grows.refl w2).al (.cells #[.int .i64 ea, .int .i64 eb, .int .i64 ec] 30)).trans (hg1.trans hgA))
            clear hg1 hgA hg1' hw0 CX CM
            have HT5 : Hid (srtE (popF L) = (srtE L).drop 1) := Lib.hid (by rw [HS.out]; rfl)
            have h1L : (1 : Int) ≤ (L.length : Int) := by omega
            by_cases hc1 : cm = 1
            · subst hc1
              have hp0 : (popF L).length = 0 := by have := HL4.out; omega
              have hpn : Hid (popF L = []) := Lib.hid (List.length_eq_zero_iff.1 hp0)
              have hl1 : L.length = 1 := by omega
              rw [hl1]
              clear hp0
              go_wp2
              go_meet
              case rel =>
                refine ⟨some ⟨bm, om, none⟩, 0, popF L, v2, ?_, ?_, ?_, ?_, HP2.out, H2.out.grows GB.out, ?_, GB.out.block B2.out, G2.out.trans GB.out⟩
                · rw [hpn.out]; rfl
                · rw [hpn.out]; simp
                · rw [hpn.out]; simp
                · rw [hpn.out]; exact ⟨by simp [srtE], .inl ⟨⟨_, _, rfl, fun h => by cases h⟩, rfl⟩⟩
                · rw [hpn.out]; exact .inl rfl
            · have hc1' : ¬ (cm = 1) := hc1
              go_wp2
              go_meet
              case rel =>
                have e6 := ((E2.out.grows GB.out).drop (j := 1) hL)
                rw [← HT5.out, HL4.out, Nat.one_mul] at e6
                refine ⟨some ⟨bm, om + 3, none⟩, cm - 1, popF L, v2, ?_, ?_, ?_, e6, HP2.out, H2.out.grows GB.out, ?_, GB.out.block B2.out, G2.out.trans GB.out⟩
                · rw [HL4.out]
                · have := HL4.out; omega
                · have := HL4.out; omega
                · rcases F2.out with h | h
                  · rw [HS.out] at h; cases h
                  · exact .inr fun b' hb' => h b' hb'
          · have hl0 : L.length = 0 := by omega
            have hLn : L = [] := List.length_eq_zero_iff.1 hl0
            have HLN := Lib.hid hLn
            have HTV : Hid (topV L = .tuple #[en (0, 0, 0), .bool false]) := Lib.hid (by rw [hLn]; rfl)
            have HPF : Hid (popF L = L) := Lib.hid (by rw [hLn]; rfl)
            clear hLn
            go_wp2_with fail
            refine (pop_heap HT.out (by omega)).mono ?_
            rintro _ w2 ⟨rfl, v2, h2, s2⟩
            rw [HTV.out]
            have E2 := Lib.hid (E.out.step s2 F.out)
            have F2 := Lib.hid (F.out.step E.out s2)
            have B2 := Lib.hid ((s2.keep.block wo.heap.size hbw hne (fun he => HVW.out _ he rfl)).trans HB.out)
            have G2 := Lib.hid (s2.below G.out (Nat.le_refl _) (fun g hg => (own_lt HT.out.own hg).1))
            rw [HPF.out] at h2
            have H2 := Lib.hid h2
            clear h2 s2 E F HB G HT HTV HPF
            rw [hl0]
            have CX : Hid (∀ w', Grows (w2.alloc (.cells #[.int .i64 0, .int .i64 0, .int .i64 0] 30)) w' → w'.cell? ⟨w2.heap.size, 0, none⟩ = some (.int .i64 0) ∧ w'.cell? ⟨w2.heap.size, 1, none⟩ = some (.int .i64 0) ∧ w'.cell? ⟨w2.heap.size, 2, none⟩ = some (.int .i64 0)) := Lib.hid fun w' hg => by
              obtain ⟨k1, k2, k3, _⟩ := cells3 (hg.block (heap_new w2 (.cells #[.int .i64 0, .int .i64 0, .int .i64 0] 30) _ rfl))
              exact ⟨k1, k2, k3⟩
            go_wp2_with fail
            refine wp_region_tab 24 (by kernel_rfl) (by kernel_rfl) ?_
            intro w0 hw0 hg1 hg1'
            simp only [List.take_succ_cons, List.take_zero, List.drop_succ_cons, List.drop_zero]
            refine tab_val (.bool false) (fun r w1 hr hg hA => by obtain ⟨q0, -⟩ := hA; have q0e : r (.tmp 8) = .bool false := q0; exact ⟨rfl, by simp [go_sem, q0e]⟩) ?_
            refine tab_val (.slice am 0 cm) (fun r w1 hr hg hA => by obtain ⟨q0, -⟩ := hA; have q0e : r (.tmp 4) = .slice am 0 cm := q0; exact ⟨rfl, by simp [go_sem, q0e]⟩) ?_
            refine tab_val (.int .i64 0) (fun r w1 hr hg hA => by obtain ⟨⟨_, q0⟩, -⟩ := hA; have q0e : r (.tmp 54) = .slice am 0 cm := q0; exact ⟨rfl, by simp [go_sem, q0e]⟩) ?_
            refine tab_val (.bool false) (fun r w1 hr hg hA => by obtain ⟨⟨_, q0⟩, -⟩ := hA; have q0e : r (.tmp 55) = .int .i64 0 := q0; exact ⟨rfl, by simp [go_sem, hr.const, q0e]⟩) ?_
            refine tab_val (.bool false) (fun r w1 hr hg hA => by obtain ⟨⟨_, q0⟩, ⟨_, q1⟩, -⟩ := hA; have q0e : r (.tmp 53) = .bool false := q0; have q1e : r (.tmp 56) = .bool false := q1; exact ⟨rfl, by simp [go_sem, q0e, q1e]⟩) ?_
            refine tab_val (.bool false) (fun r w1 hr hg hA => by obtain ⟨⟨_, q0⟩, -⟩ := hA; have q0e : r (.tmp 57) = .bool false := q0; exact ⟨rfl, by simp [go_sem, q0e]⟩) ?_
            refine tab_val (.bool false) (fun r w1 hr hg hA => by obtain ⟨q0, ⟨_, q1⟩, -⟩ := hA; have q0e : r (.tmp 8) = .bool false := q0; have q1e : r (.tmp 58) = .bool false := q1; exact ⟨⟨_, q1e, rfl⟩, by simp [go_sem, q0e]⟩) ?_
            refine tab_val (.bool false) (fun r w1 hr hg hA => by obtain ⟨⟨_, q0⟩, ⟨_, q1⟩, -⟩ := hA; have q0e : r (.tmp 59) = .bool false := q0; have q1e : r (.tmp 58) = .bool false := q1; exact ⟨⟨_, q1e, rfl⟩, by simp [go_sem, q0e]⟩) ?_
            refine tab_skip (fun r w1 hr hg hA => by obtain ⟨q0, ⟨_, q1⟩, -⟩ := hA; have q0e : r (.tmp 7) = .pointer (some ⟨w2.heap.size, 0, none⟩) := q0; have q1e : r (.tmp 60) = .bool false := q1; exact ⟨_, q1e, rfl⟩) ?_
            refine tab_skip (fun r w1 hr hg hA => by obtain ⟨q0, ⟨_, q1⟩, -⟩ := hA; have q0e : r (.tmp 4) = .slice am 0 cm := q0; have q1e : r (.tmp 60) = .bool false := q1; exact ⟨_, q1e, rfl⟩) ?_
            refine tab_skip (fun r w1 hr hg hA => by obtain ⟨⟨_, q0⟩, ⟨_, q1⟩, -⟩ := hA; have q0e : r (.tmp 62) = undef := q0; have q1e : r (.tmp 60) = .bool false := q1; exact ⟨_, q1e, rfl⟩) ?_
            refine tab_skip (fun r w1 hr hg hA => by obtain ⟨⟨_, q0⟩, ⟨_, q1⟩, -⟩ := hA; have q0e : r (.tmp 63) = undef := q0; have q1e : r (.tmp 60) = .bool false := q1; exact ⟨_, q1e, rfl⟩) ?_
            refine tab_skip (fun r w1 hr hg hA => by obtain ⟨⟨_, q0⟩, ⟨_, q1⟩, ⟨_, q2⟩, -⟩ := hA; have q0e : r (.tmp 61) = undef := q0; have q1e : r (.tmp 64) = undef := q1; have q2e : r (.tmp 60) = .bool false := q2; exact ⟨_, q2e, rfl⟩) ?_
            refine tab_val (.bool false) (fun r w1 hr hg hA => by obtain ⟨⟨_, q0⟩, ⟨_, q1⟩, ⟨_, q2⟩, -⟩ := hA; have q0e : r (.tmp 60) = .bool false := q0; have q1e : r (.tmp 65) = undef := q1; have q2e : r (.tmp 58) = .bool false := q2; exact ⟨⟨_, q2e, rfl⟩, by simp [go_sem, hr.const, q0e]⟩) ?_
            refine tab_val (.bool false) (fun r w1 hr hg hA => by obtain ⟨⟨_, q0⟩, ⟨_, q1⟩, -⟩ := hA; have q0e : r (.tmp 58) = .bool false := q0; have q1e : r (.tmp 66) = .bool false := q1; exact ⟨rfl, by simp [go_sem, q0e, q1e]⟩) ?_
            refine tab_val (.bool false) (fun r w1 hr hg hA => by obtain ⟨⟨_, q0⟩, -⟩ := hA; have q0e : r (.tmp 67) = .bool false := q0; exact ⟨rfl, by simp [go_sem, q0e]⟩) ?_
            refine tab_val (.bool false) (fun r w1 hr hg hA => by obtain ⟨q0, ⟨_, q1⟩, -⟩ := hA; have q0e : r (.tmp 8) = .bool false := q0; have q1e : r (.tmp 68) = .bool false := q1; exact ⟨⟨_, q1e, rfl⟩, by simp [go_sem, q0e]⟩) ?_
            refine tab_val (.bool true) (fun r w1 hr hg hA => by obtain ⟨⟨_, q0⟩, ⟨_, q1⟩, -⟩ := hA; have q0e : r (.tmp 69) = .bool false := q0; have q1e : r (.tmp 68) = .bool false := q1; exact ⟨⟨_, q1e, rfl⟩, by simp [go_sem, q0e]⟩) ?_
            refine tab_val (.bool true) (fun r w1 hr hg hA => by obtain ⟨⟨_, q0⟩, ⟨_, q1⟩, -⟩ := hA; have q0e : r (.tmp 70) = .bool true := q0; have q1e : r (.tmp 68) = .bool false := q1; exact ⟨⟨_, q1e, rfl⟩, by simp [go_sem, q0e]⟩) ?_
            refine tab_val (en (0, 0, 0)) (fun r w1 hr hg hA => by obtain ⟨q0, ⟨_, q1⟩, -⟩ := hA; have q0e : r (.tmp 7) = .pointer (some ⟨w2.heap.size, 0, none⟩) := q0; have q1e : r (.tmp 71) = .bool true := q1; have hc := CX.out _ (hg1.trans hg); exact ⟨⟨_, q1e, rfl⟩, by simp [go_sem, q0e, hc]⟩) ?_
            refine tab_val (en (0, 0, 0)) (fun r w1 hr hg hA => by obtain ⟨⟨_, q0⟩, -⟩ := hA; have q0e : r (.tmp 71) = .bool true := q0; exact ⟨⟨_, q0e, rfl⟩, by simp [go_sem]⟩) ?_
            refine tab_val (.bool false) (fun r w1 hr hg hA => by obtain ⟨⟨_, q0⟩, ⟨_, q1⟩, ⟨_, q2⟩, -⟩ := hA; have q0e : r (.tmp 72) = en (0, 0, 0) := q0; have q1e : r (.tmp 73) = en (0, 0, 0) := q1; have q2e : r (.tmp 71) = .bool true := q2; exact ⟨⟨_, q2e, rfl⟩, by simp [go_sem, q0e, q1e]⟩) ?_
            refine tab_val (.bool false) (fun r w1 hr hg hA => by obtain ⟨⟨_, q0⟩, ⟨_, q1⟩, ⟨_, q2⟩, -⟩ := hA; have q0e : r (.tmp 71) = .bool true := q0; have q1e : r (.tmp 74) = .bool false := q1; have q2e : r (.tmp 68) = .bool false := q2; exact ⟨⟨_, q2e, rfl⟩, by simp [go_sem, q0e, q1e]⟩) ?_
            refine tab_val (.bool false) (fun r w1 hr hg hA => by obtain ⟨⟨_, q0⟩, ⟨_, q1⟩, -⟩ := hA; have q0e : r (.tmp 68) = .bool false := q0; have q1e : r (.tmp 75) = .bool false := q1; exact ⟨rfl, by simp [go_sem, q0e, q1e]⟩) ?_
            refine tab_end ?_
            simp only [List.reverse_cons, List.reverse_nil, List.nil_append, List.cons_append, Out, BlockP, forall_eq, forall_const, Act.put, List.setIfInBounds_toArray, List.set_cons_succ, List.set_cons_zero]
            intro wA hgA
            have GB := Lib.hid (((Grows.refl w2).al (.cells #[.int .i64 0, .int .i64 0, .int .i64 0] 30)).trans (hg1.trans hgA))
            clear hg1 hgA hg1' hw0 CX
            go_wp2
            go_meet
            case rel =>
              exact ⟨am, cm, L, v2, by rw [hl0], by omega, hLc, E2.out.grows GB.out, HH.out, H2.out.grows GB.out, F2.out, GB.out.block B2.out, G2.out.trans GB.out⟩
        · have bk0 : (kind == 0) = false := by rw [beq_eq_false_iff_ne]; exact hk0
          obtain ⟨k0, k1, k2, k3, k4, k5, k6⟩ := cells7 HB.out
          by_cases hk1 : kind = 1
          · subst hk1
            clear k0 k1 k2 k3 k4 k5 k6
            go_wp2
            go_loopw [4, 9, 10] (fun m nn k wr => ∃ (j : Nat) (am : Option Addr) (cm : Nat) (M : List Ent3) (cN : Nat), k = iv j ∧ j ≤ 2 ∧ m = .slice am M.length cm ∧ nn = iv cN ∧ cN ≤ j ∧ ([(xa, xb, xc), (ya, yb, yc)].take j).foldl dropM (srtE L, 0) = (M, cN) ∧ M.length ≤ L.length ∧ M.length ≤ cm ∧ EntsAt wr (.slice am M.length cm) M ∧ Far (.slice am M.length cm) M w.heap.size v ∧ Grows w1 wr) (fun _ _ k _ => 3 - (intOf k).toNat)
            case atStart => exact ⟨0, am, cm, srtE L, 0, rfl, by omega, by rw [srtE_len], rfl, Nat.le_refl _, rfl, by rw [srtE_len]; exact Nat.le_refl _, by rw [srtE_len]; exact hLc, by rw [srtE_len]; exact E.out, by rw [srtE_len]; exact F.out, Grows.refl _⟩
            case round =>
              obtain ⟨j, am2, cm2, M, cN, rfl, hj2, rfl, rfl, hcj, hfold, hML, hMc, he2, hf2, hg2⟩ := hrel
              have HFD := Lib.hid hfold
              have E2 := Lib.hid he2
              have F2 := Lib.hid hf2
              have G2 := Lib.hid hg2
              clear hfold he2 hf2 hg2
              have HTr := Lib.hid (HT.out.grows G2.out)
              obtain ⟨k0, k1, k2, k3, k4, k5, k6⟩ := cells7 (G2.out.block HB.out)
              have STEP : Hid (∀ (e : Ent3) (w5 : World) (vd : Value), Grows wr w5 → EntsAt w5 vd (M.erase e) → (∀ g, vd.ownBlock = some g → (Value.slice am2 M.length cm2).ownBlock = some g ∨ wr.heap.size ≤ g) → ∃ am3 cm3, vd = .slice am3 (M.erase e).length cm3 ∧ (M.erase e).length ≤ M.length ∧ (M.erase e).length ≤ cm3 ∧ EntsAt w5 (.slice am3 (M.erase e).length cm3) (M.erase e) ∧ Far (.slice am3 (M.erase e).length cm3) (M.erase e) w.heap.size v) := Lib.hid fun e w5 vd hg he hr => by
                obtain ⟨am3, cm3, hvd, hc3, _⟩ := he.shape
                refine ⟨am3, cm3, hvd, List.length_erase_le, hc3, hvd ▸ he, ?_⟩
                rw [← hvd]
                rcases F2.out with h | h
                · exact .inl (by rw [h]; rfl)
                · refine .inr fun g hg => ?_
                  rcases hr g hg with h5 | h5
                  · exact h g h5
                  · exact ⟨fun e => by have := HTr.out.lt; omega, fun hv => by have := (own_lt HTr.out.own hv).2; omega⟩
              have GX : Hid (∀ w5, Grows (wr.alloc (.cells #[.int .i64 xa, .int .i64 xb, .int .i64 xc, .int .i64 ya, .int .i64 yb, .int .i64 yc] 30)) w5 → Grows w1 w5) := Lib.hid fun w5 hg => G2.out.trans (((Grows.refl wr).al _).trans hg)
              have hM1 : M.length ≤ 1000 := by omega
              rcases (show j = 0 ∨ j = 1 ∨ j = 2 by omega) with rfl | rfl | rfl
              · go_wp2_with fail
                refine (rdrop_any am2 M.length cm2 M (xa, xb, xc) _ (E2.out.grows ((Grows.refl wr).al _)) rfl hMc hM1).mono ?_
                rintro _ w5 ⟨vd, rfl, hed, hrd, hgd⟩
                have G5 := Lib.hid (GX.out _ hgd)
                obtain ⟨am3, cm3, rfl, hl3, hc3, he3, hf3⟩ := STEP.out (xa, xb, xc) w5 vd (((Grows.refl wr).al _).trans hgd) hed (fun g hg => by
                  rcases hrd g hg with h | h
                  · exact .inl h
                  · simp only [World.size_alloc] at h; exact .inr (by omega))
                have E5 := Lib.hid he3
                have F5 := Lib.hid hf3
                have HN : Hid (([(xa, xb, xc), (ya, yb, yc)].take 1).foldl dropM (srtE L, 0) = dropM (M, cN) (xa, xb, xc)) := Lib.hid (by rw [← HFD.out]; rfl)
                clear hed hrd hgd he3 hf3 STEP k0 k1 k2 k3 k4 k5 k6
                by_cases hm : (xa, xb, xc) ∈ M
                · rw [decide_eq_true hm]
                  have HN2 : Hid (dropM (M, cN) (xa, xb, xc) = (M.erase (xa, xb, xc), cN + 1)) := Lib.hid (by unfold dropM; rw [if_pos hm])
                  clear hm
                  go_wp2
                  exact ⟨⟨1, am3, cm3, M.erase (xa, xb, xc), cN + 1, by simp, by omega, rfl, by simp, by omega, HN.out.trans HN2.out, by omega, hc3, E5.out, F5.out, G5.out⟩, by simp only [intOf]; omega⟩
                · rw [decide_eq_false hm]
                  have HN2 : Hid (dropM (M, cN) (xa, xb, xc) = (M.erase (xa, xb, xc), cN)) := Lib.hid (by unfold dropM; rw [if_neg hm])
                  clear hm
                  go_wp2
                  exact ⟨⟨1, am3, cm3, M.erase (xa, xb, xc), cN, by simp, by omega, rfl, rfl, by omega, HN.out.trans HN2.out, by omega, hc3, E5.out, F5.out, G5.out⟩, by simp only [intOf]; omega⟩
              · go_wp2_with fail
                refine (rdrop_any am2 M.length cm2 M (ya, yb, yc) _ (E2.out.grows ((Grows.refl wr).al _)) rfl hMc hM1).mono ?_
                rintro _ w5 ⟨vd, rfl, hed, hrd, hgd⟩
                have G5 := Lib.hid (GX.out _ hgd)
                obtain ⟨am3, cm3, rfl, hl3, hc3, he3, hf3⟩ := STEP.out (ya, yb, yc) w5 vd (((Grows.refl wr).al _).trans hgd) hed (fun g hg => by
                  rcases hrd g hg with h | h
                  · exact .inl h
                  · simp only [World.size_alloc] at h; exact .inr (by omega))
                have E5 := Lib.hid he3
                have F5 := Lib.hid hf3
                have HN : Hid (([(xa, xb, xc), (ya, yb, yc)].take 2).foldl dropM (srtE L, 0) = dropM (M, cN) (ya, yb, yc)) := Lib.hid (by rw [← HFD.out]; rfl)
                clear hed hrd hgd he3 hf3 STEP k0 k1 k2 k3 k4 k5 k6
                by_cases hm : (ya, yb, yc) ∈ M
                · rw [decide_eq_true hm]
                  have HN2 : Hid (dropM (M, cN) (ya, yb, yc) = (M.erase (ya, yb, yc), cN + 1)) := Lib.hid (by unfold dropM; rw [if_pos hm])
                  clear hm
                  go_wp2
                  exact ⟨⟨2, am3, cm3, M.erase (ya, yb, yc), cN + 1, by simp, by omega, rfl, by simp, by omega, HN.out.trans HN2.out, by omega, hc3, E5.out, F5.out, G5.out⟩, by simp only [intOf]; omega⟩
                · rw [decide_eq_false hm]
                  have HN2 : Hid (dropM (M, cN) (ya, yb, yc) = (M.erase (ya, yb, yc), cN)) := Lib.hid (by unfold dropM; rw [if_neg hm])
                  clear hm
                  go_wp2
                  exact ⟨⟨2, am3, cm3, M.erase (ya, yb, yc), cN, by simp, by omega, rfl, rfl, by omega, HN.out.trans HN2.out, by omega, hc3, E5.out, F5.out, G5.out⟩, by simp only [intOf]; omega⟩
              · clear STEP GX
                have HMM := Lib.hid (drops_M L (xa, xb, xc) (ya, yb, yc) HH.out)
                have HF3 : Hid ([(xa, xb, xc), (ya, yb, yc)].foldl dropM (srtE L, 0) = (M, cN)) := HFD
                have HQ1 : Hid (srtE ([(xa, xb, xc), (ya, yb, yc)].foldl dropS (L, 0)).1 = M) := Lib.hid (by rw [HMM.out.1, HF3.out])
                have HQ2 : Hid (([(xa, xb, xc), (ya, yb, yc)].foldl dropS (L, 0)).2 = cN) := Lib.hid (by rw [HMM.out.2.1, HF3.out])
                have HQ3 := Lib.hid HMM.out.2.2
                have HQ4 := Lib.hid (drops_len L [(xa, xb, xc), (ya, yb, yc)] 0)
                clear HMM HF3 HFD
                go_wp2_with fail
                refine (drop_heap (HTr.out.grows ((Grows.refl wr).al _)) _ [(xa, xb, xc), (ya, yb, yc)] (ents_block (heap_new _ _ _ rfl) rfl (by simp)) (.inr fun g hg => by have hgg : wr.heap.size = g := Option.some.inj hg; exact ⟨fun e => by have := HTr.out.lt; omega, fun hv => by have := (own_lt HTr.out.own hv).2; omega⟩) (by omega) (by simp)).mono ?_
                rw [HQ2.out]
                generalize ([(xa, xb, xc), (ya, yb, yc)].foldl dropS (L, 0)).1 = L2 at HQ1 HQ3 HQ4 ⊢
                rintro _ w5 ⟨rfl, v5, h5, s5⟩
                have hML2 : Hid (M.length = L2.length) := Lib.hid (by rw [← HQ1.out, srtE_len])
                have EA := (E2.out.grows ((Grows.refl wr).al (.cells #[.int .i64 xa, .int .i64 xb, .int .i64 xc, .int .i64 ya, .int .i64 yb, .int .i64 yc] 30)))
                have E5 := Lib.hid (EA.step s5 F2.out)
                have F5 := Lib.hid (F2.out.step EA s5)
                have hps : wo.heap.size < wr.heap.size := Nat.lt_of_lt_of_le hbw G2.out.size
                have B5 := Lib.hid ((s5.keep.block wo.heap.size (by simp only [World.size_alloc]; omega) hne (fun he => HVW.out _ he rfl)).trans (((Grows.refl wr).al _).block (G2.out.block HB.out)))
                have G5 := Lib.hid (s5.below ((G.out.trans G2.out).al _) (Nat.le_refl _) (fun g hg => (own_lt HT.out.own hg).1))
                have H5 := Lib.hid h5
                have bcn : ((cN : Int) == (cN : Int)) = true := by simp
                clear EA h5 s5 E2 F2 G2 HTr k0 k1 k2 k3 k4 k5 k6
                go_wp2
                go_meet
                case rel =>
                  refine ⟨am2, cm2, L2, v5, by rw [hML2.out], by have := HQ4.out; omega, by rw [← hML2.out]; exact hMc, ?_, HQ3.out, H5.out, ?_, B5.out, G5.out⟩
                  · rw [HQ1.out, ← hML2.out]; exact E5.out
                  · rw [HQ1.out, ← hML2.out]; exact F5.out
          · have bk1 : (kind == 1) = false := by rw [beq_eq_false_iff_ne]; exact hk1
            clear k0 k1 k2 k3 k4 k5 k6
            have CB := Lib.hid (fun w' (hg : Grows w1 w') => cells7 (hg.block HB.out))
            have HSP := Lib.hid (srtE_push L (xa, xb, xc) (ya, yb, yc))
            have HLA : Hid (∀ w', Grows w1 w' → EntsAt w' (.slice am L.length cm) (srtE L)) := Lib.hid fun w' hg => E.out.grows hg
            have HL9 : Hid ((srtE L).length ≤ 160 ∧ (insE (srtE L) (xa, xb, xc)).length ≤ 161) := Lib.hid (by rw [(insE_perm _ _).length_eq, List.length_cons, srtE_len]; omega)
            go_wp2_with fail
            refine wp_region_tab 7 (by kernel_rfl) (by kernel_rfl) ?_
            intro w0 hw0 hg1 hg1'
            simp only [List.take_succ_cons, List.take_zero, List.drop_succ_cons, List.drop_zero]
            refine tab_val (.slice am L.length cm) (fun r w1 hr hg hA => by obtain ⟨q0, -⟩ := hA; have q0e : r (.tmp 4) = .slice am L.length cm := q0; exact ⟨rfl, by simp [go_sem, q0e]⟩) ?_
            refine tab_val (.pointer (some ⟨wo.heap.size, 1, none⟩)) (fun r w1 hr hg hA => by obtain ⟨q0, -⟩ := hA; have q0e : r (.tmp 6) = .pointer (some ⟨wo.heap.size, 0, none⟩) := q0; exact ⟨rfl, by simp [go_sem, q0e]⟩) ?_
            refine tab_val (en (xa, xb, xc)) (fun r w1 hr hg hA => by obtain ⟨⟨_, q0⟩, -⟩ := hA; have q0e : r (.tmp 32) = .pointer (some ⟨wo.heap.size, 1, none⟩) := q0; have hc := CB.out _ (hg1.trans hg); exact ⟨rfl, by simp [go_sem, q0e, hc]⟩) ?_
            refine tab_callQ (fun v w' => PV (insE (srtE L) (xa, xb, xc)) w0.heap.size v w') PV.up (fun r w1 hr hg hA => by obtain ⟨⟨_, q0⟩, ⟨_, q1⟩, -⟩ := hA; have q0e : r (.tmp 31) = .slice am L.length cm := q0; have q1e : r (.tmp 33) = en (xa, xb, xc) := q1; exact ⟨rfl, _, by simp [go_sem, hr.func, q0e, q1e], rpush_PV _ _ _ _ _ (HLA.out _ (hg1.trans hg)) (by have := HL9.out; omega) hg.size⟩) ?_
            refine tab_val (.pointer (some ⟨wo.heap.size, 4, none⟩)) (fun r w1 hr hg hA => by obtain ⟨q0, -⟩ := hA; have q0e : r (.tmp 6) = .pointer (some ⟨wo.heap.size, 0, none⟩) := q0; exact ⟨rfl, by simp [go_sem, q0e]⟩) ?_
            refine tab_val (en (ya, yb, yc)) (fun r w1 hr hg hA => by obtain ⟨⟨_, q0⟩, -⟩ := hA; have q0e : r (.tmp 35) = .pointer (some ⟨wo.heap.size, 4, none⟩) := q0; have hc := CB.out _ (hg1.trans hg); exact ⟨rfl, by simp [go_sem, q0e, hc]⟩) ?_
            refine tab_callQ (fun v w' => PV (insE (insE (srtE L) (xa, xb, xc)) (ya, yb, yc)) w0.heap.size v w') PV.up (fun r w1 hr hg hA => by obtain ⟨⟨_, q0⟩, ⟨_, q1⟩, -⟩ := hA; have q1e : r (.tmp 36) = en (ya, yb, yc) := q1; obtain ⟨a5, c5, h51, h52, h53, h54⟩ := q0; have q0e : r (.tmp 34) = .slice a5 (insE (srtE L) (xa, xb, xc)).length c5 := h51; rw [h51] at h53; exact ⟨rfl, _, by simp [go_sem, hr.func, q0e, q1e], rpush_PV _ _ _ _ _ h53 (by have := HL9.out; omega) hg.size⟩) ?_
            refine tab_end ?_
            simp only [List.reverse_cons, List.reverse_nil, List.nil_append, List.cons_append, Out, BlockP, forall_eq, forall_const, Act.put, List.setIfInBounds_toArray, List.set_cons_succ, List.set_cons_zero]
            intro wB hgA v34 hv34
            intro v37 hv37
            have GB := Lib.hid (hg1.trans hgA)
            have hsz : w1.heap.size ≤ w0.heap.size := hg1.size
            have P37 := Lib.hid hv37
            have TB := Lib.hid (HT.out.grows GB.out)
            clear hg1 hgA hg1' hw0 hv37 hv34 HLA HL9
            obtain ⟨am3, cm3, rfl, hc3, he3, hf3⟩ := P37.out
            rw [← HSP.out, srtE_len] at he3 hc3
            rw [← HSP.out, srtE_len] at hf3
            rw [← HSP.out, srtE_len]
            have E3 := Lib.hid he3
            have F3 : Hid (Far (.slice am3 (pushF L [(xa, xb, xc), (ya, yb, yc)]).length cm3) (srtE (pushF L [(xa, xb, xc), (ya, yb, yc)])) w.heap.size v) := Lib.hid (Far.fresh HT.out fun g hg => Nat.le_trans hsz (hf3 g hg))
            have hpl : (pushF L [(xa, xb, xc), (ya, yb, yc)]).length = L.length + 2 := by rw [pushF_len]; rfl
            have HPL := Lib.hid hpl
            have HH3 := Lib.hid (push_heapF HH.out [(xa, xb, xc), (ya, yb, yc)])
            clear he3 hf3 P37
            rw [hpl]
            rw [hpl] at hc3
            clear hpl
            obtain ⟨k0, k1, k2, k3, k4, k5, k6⟩ := CB.out _ GB.out
            go_wp2_with fail
            refine (push_heap (TB.out.grows ((Grows.refl _).al _)) _ [(xa, xb, xc), (ya, yb, yc)] (ents_block (heap_new _ _ _ rfl) rfl (by simp)) (.inr fun g hg => by have hgg : wB.heap.size = g := Option.some.inj hg; exact ⟨fun e => by have := TB.out.lt; omega, fun hv => by have := (own_lt TB.out.own hv).2; omega⟩) (by simp only [List.length_cons, List.length_nil]; omega)).mono ?_
            rw [show ([(xa, xb, xc), (ya, yb, yc)] : List Ent3).length = 2 from rfl]
            rintro _ w5 ⟨rfl, v5, h5, s5⟩
            have EA := (E3.out.grows ((Grows.refl wB).al (.cells #[.int .i64 xa, .int .i64 xb, .int .i64 xc, .int .i64 ya, .int .i64 yb, .int .i64 yc] 30)))
            have E5 := Lib.hid (EA.step s5 F3.out)
            have F5 := Lib.hid (F3.out.step EA s5)
            have hps : wo.heap.size < wB.heap.size := Nat.lt_of_lt_of_le hbw GB.out.size
            have B5 := Lib.hid ((s5.keep.block wo.heap.size (by simp only [World.size_alloc]; omega) hne (fun he => HVW.out _ he rfl)).trans (((Grows.refl wB).al _).block (GB.out.block HB.out)))
            have G5 := Lib.hid (s5.below ((G.out.trans GB.out).al _) (Nat.le_refl _) (fun g hg => (own_lt HT.out.own hg).1))
            have H5 := Lib.hid h5
            have bcn : (((L.length : Int) + 2) == ((L.length : Int) + 2)) = true := by simp
            clear EA h5 s5 k0 k1 k2 k3 k4 k5 k6
            go_wp2
            go_meet
            case rel =>
              exact ⟨am3, cm3, pushF L [(xa, xb, xc), (ya, yb, yc)], v5, by rw [HPL.out], by rw [HPL.out]; omega, by rw [HPL.out]; exact hc3, E5.out, HH3.out, H5.out, F5.out, B5.out, G5.out⟩
      case rest =>
        obtain ⟨am2, cm2, L2, v2, rfl, hl2, hc2, he2, hh2, ht2, hf2, hb2, hg2⟩ := hcut
        have E2 := Lib.hid he2
        have H2 := Lib.hid hh2
        have T2 := Lib.hid ht2
        have F2 := Lib.hid hf2
        have G2 := Lib.hid hg2
        have B2 := Lib.hid hb2
        have hl162 : L2.length ≤ 162 := by omega
        have hl2k : Hid (L2.length ≤ 2 * (k + 1)) := Lib.hid (by omega)
        clear he2 hh2 ht2 hf2 hg2 hb2 E HH HT F G q0 q1 q2 q3 q4 q5 q6 hl2
        go_wp2_with fail
        refine (top_heap T2.out (by omega)).mono ?_
        rintro _ w2 ⟨rfl, hg⟩
        obtain ⟨ex, hex⟩ : ∃ ex, ex = L2.getD 0 e0 := ⟨_, rfl⟩
        rw [← hex]
        have T3 := Lib.hid (T2.out.grows hg)
        have E3 := Lib.hid (E2.out.grows hg)
        have B3 := Lib.hid (hg.block B2.out)
        have G3 := Lib.hid (G2.out.trans hg)
        have HX := Lib.hid hex
        clear hg hex E2 T2 B2 G2
        obtain ⟨ea, eb, ec⟩ := ex
        have GAL : Hid (Grows w2 (w2.alloc (.cells #[.int .i64 ea, .int .i64 eb, .int .i64 ec] 30))) := Lib.hid ((Grows.refl w2).al _)
        have CX : Hid (∀ w', Grows (w2.alloc (.cells #[.int .i64 ea, .int .i64 eb, .int .i64 ec] 30)) w' → (w'.cell? ⟨w2.heap.size, 0, none⟩ = some (.int .i64 ea) ∧ w'.cell? ⟨w2.heap.size, 1, none⟩ = some (.int .i64 eb) ∧ w'.cell? ⟨w2.heap.size, 2, none⟩ = some (.int .i64 ec)) ∧ (w'.cell? ⟨wo.heap.size, 0, none⟩ = some (.int .i64 kind) ∧ w'.cell? ⟨wo.heap.size, 1, none⟩ = some (.int .i64 xa) ∧ w'.cell? ⟨wo.heap.size, 2, none⟩ = some (.int .i64 xb) ∧ w'.cell? ⟨wo.heap.size, 3, none⟩ = some (.int .i64 xc) ∧ w'.cell? ⟨wo.heap.size, 4, none⟩ = some (.int .i64 ya) ∧ w'.cell? ⟨wo.heap.size, 5, none⟩ = some (.int .i64 yb) ∧ w'.cell? ⟨wo.heap.size, 6, none⟩ = some (.int .i64 yc))) := Lib.hid fun w' hg => by
          obtain ⟨k1, k2, k3, _⟩ := cells3 (hg.block (heap_new w2 (.cells #[.int .i64 ea, .int .i64 eb, .int .i64 ec] 30) _ rfl))
          exact ⟨⟨k1, k2, k3⟩, cells7 ((GAL.out.trans hg).block B3.out)⟩
        have HLEN : Hid (∀ w', Grows (w2.alloc (.cells #[.int .i64 ea, .int .i64 eb, .int .i64 ec] 30)) w' → Calls Try.prog 12 #[.pointer (some ⟨w.heap.size, 0, none⟩)] w' (Ret (iv L2.length) w')) := Lib.hid fun w' hg => len_heap (T3.out.grows (GAL.out.trans hg)) (by omega)
        have HALL : Hid (∀ w', Grows (w2.alloc (.cells #[.int .i64 ea, .int .i64 eb, .int .i64 ec] 30)) w' → Calls Try.prog 14 #[.pointer (some ⟨w.heap.size, 0, none⟩)] w' (fun r w'' => ∃ v, r = .returned v ∧ EntsAt w'' v (srtE L2) ∧ Grows w' w'')) := Lib.hid fun w' hg => (all_heap (T3.out.grows (GAL.out.trans hg)) (by omega)).mono fun r w'' ⟨v', hr, hown, hg'⟩ => ⟨v', hr, own_ents hown rfl (by rw [srtE_len]; omega), hg'⟩
        have HSM : Hid (∀ v' w', Grows (w2.alloc (.cells #[.int .i64 ea, .int .i64 eb, .int .i64 ec] 30)) w' → EntsAt w' v' (srtE L2) → Calls Try.prog 13 #[v', .slice am2 L2.length cm2] w' (Ret (.bool true) w')) := Lib.hid fun v' w' hg hv' => by
          have := same_any v' (.slice am2 L2.length cm2) (srtE L2) (srtE L2) w' hv' (E3.out.grows (GAL.out.trans hg)) (by rw [srtE_len]; omega) (by rw [srtE_len]; omega)
          rwa [show decide (srtE L2 = srtE L2) = true by simp] at this
        obtain ⟨lb, hlb⟩ : ∃ lb, lb = lessE (xa, xb, xc) (ya, yb, yc) := ⟨_, rfl⟩
        have HL1 : Hid (∀ w', Calls Try.prog 15 #[en (xa, xb, xc), en (ya, yb, yc)] w' (Ret (.bool lb) w')) := Lib.hid fun w' => by rw [hlb]; exact less_any _ _ w'
        have HL2' : Hid (∀ w', Calls Try.prog 16 #[en (xa, xb, xc), en (ya, yb, yc)] w' (Ret (.bool lb) w')) := Lib.hid fun w' => by rw [hlb]; exact rless_any _ _ w'
        clear hlb
        by_cases hL : 0 < L2.length
        · have hd : decide (0 < L2.length) = true := by simpa using hL
          rw [hd]
          have hL0 : (0 : Int) < (L2.length : Int) := by omega
          have hx0 : (srtE L2).getD 0 e0 = (ea, eb, ec) := by rw [HX.out, srtE_heap H2.out hL]; rfl
          obtain ⟨bm, om, rfl, hbm, _⟩ := E3.out.at_ (i := 0) (by rw [srtE_len]; exact hL)
          have CM : Hid (∀ w', Grows (w2.alloc (.cells #[.int .i64 ea, .int .i64 eb, .int .i64 ec] 30)) w' → w'.cell? ⟨bm, om, none⟩ = some (.int .i64 ea) ∧ w'.cell? ⟨bm, om + 1, none⟩ = some (.int .i64 eb) ∧ w'.cell? ⟨bm, om + 2, none⟩ = some (.int .i64 ec)) := Lib.hid fun w' hg => by
            have := (E3.out.grows (GAL.out.trans hg)).at_cell (i := 0) (by rw [srtE_len]; exact hL)
            rw [hx0] at this
            simp only [Nat.zero_mul, Nat.add_zero] at this
            exact this
          clear hd hx0
          go_wp2_with fail
          refine wp_region_tab 40 (by kernel_rfl) (by kernel_rfl) ?_
          intro w0 hw0 hg1 hg1'
          simp only [List.take_succ_cons, List.take_zero, List.drop_succ_cons, List.drop_zero]
          refine tab_call (v := iv L2.length) (fun w1 hg => HLEN.out w1 (hg1.trans hg)) (fun r w1 hr hg hA => by obtain ⟨q0, -⟩ := hA; have q0e : r (.tmp 3) = .pointer (some ⟨w.heap.size, 0, none⟩) := q0; exact ⟨rfl, by simp [go_sem, hr.func, q0e]⟩) ?_
          refine tab_val (.slice (some ⟨bm, om, none⟩) L2.length cm2) (fun r w1 hr hg hA => by obtain ⟨q0, -⟩ := hA; have q0e : r (.tmp 4) = .slice (some ⟨bm, om, none⟩) L2.length cm2 := q0; exact ⟨rfl, by simp [go_sem, q0e]⟩) ?_
          refine tab_val (iv L2.length) (fun r w1 hr hg hA => by obtain ⟨⟨_, q0⟩, -⟩ := hA; have q0e : r (.tmp 116) = .slice (some ⟨bm, om, none⟩) L2.length cm2 := q0; exact ⟨rfl, by simp [go_sem, q0e]⟩) ?_
          refine tab_val (.bool false) (fun r w1 hr hg hA => by obtain ⟨⟨_, q0⟩, ⟨_, q1⟩, -⟩ := hA; have q0e : r (.tmp 115) = iv L2.length := q0; have q1e : r (.tmp 117) = iv L2.length := q1; exact ⟨rfl, by simp [go_sem, q0e, q1e]⟩) ?_
          refine tab_val (.bool false) (fun r w1 hr hg hA => by obtain ⟨⟨_, q0⟩, -⟩ := hA; have q0e : r (.tmp 118) = .bool false := q0; exact ⟨rfl, by simp [go_sem, q0e]⟩) ?_
          refine tab_callQ (fun v w1 => EntsAt w1 v (srtE L2)) (fun _ _ _ h hg => h.grows hg) (fun r w1 hr hg hA => by obtain ⟨q0, ⟨_, q1⟩, -⟩ := hA; have q0e : r (.tmp 3) = .pointer (some ⟨w.heap.size, 0, none⟩) := q0; have q1e : r (.tmp 119) = .bool false := q1; exact ⟨⟨_, q1e, rfl⟩, _, by simp [go_sem, hr.func, q0e], HALL.out w1 (hg1.trans hg)⟩) ?_
          refine tab_val (.slice (some ⟨bm, om, none⟩) L2.length cm2) (fun r w1 hr hg hA => by obtain ⟨q0, ⟨_, q1⟩, -⟩ := hA; have q0e : r (.tmp 4) = .slice (some ⟨bm, om, none⟩) L2.length cm2 := q0; have q1e : r (.tmp 119) = .bool false := q1; exact ⟨⟨_, q1e, rfl⟩, by simp [go_sem, q0e]⟩) ?_
          refine tab_callP (v := .bool true) (fun r w1 hr hg hA => by obtain ⟨⟨_, q0⟩, ⟨_, q1⟩, ⟨_, q2⟩, -⟩ := hA; have q1e : r (.tmp 121) = .slice (some ⟨bm, om, none⟩) L2.length cm2 := q1; have q2e : r (.tmp 119) = .bool false := q2; exact ⟨⟨_, q2e, rfl⟩, #[r (.tmp 120), .slice (some ⟨bm, om, none⟩) L2.length cm2], by simp [go_sem, hr.func, q1e], HSM.out _ w1 (hg1.trans hg) q0⟩) ?_
          refine tab_val (.bool false) (fun r w1 hr hg hA => by obtain ⟨⟨_, q0⟩, ⟨_, q1⟩, -⟩ := hA; have q0e : r (.tmp 122) = .bool true := q0; have q1e : r (.tmp 119) = .bool false := q1; exact ⟨⟨_, q1e, rfl⟩, by simp [go_sem, q0e]⟩) ?_
          refine tab_val (.bool false) (fun r w1 hr hg hA => by obtain ⟨⟨_, q0⟩, ⟨_, q1⟩, -⟩ := hA; have q0e : r (.tmp 119) = .bool false := q0; have q1e : r (.tmp 123) = .bool false := q1; exact ⟨rfl, by simp [go_sem, q0e, q1e]⟩) ?_
          refine tab_val (.bool false) (fun r w1 hr hg hA => by obtain ⟨⟨_, q0⟩, -⟩ := hA; have q0e : r (.tmp 124) = .bool false := q0; exact ⟨rfl, by simp [go_sem, q0e]⟩) ?_
          refine tab_val (.bool true) (fun r w1 hr hg hA => by obtain ⟨q0, ⟨_, q1⟩, -⟩ := hA; have q0e : r (.tmp 14) = .bool true := q0; have q1e : r (.tmp 125) = .bool false := q1; exact ⟨⟨_, q1e, rfl⟩, by simp [go_sem, q0e]⟩) ?_
          refine tab_val (.slice (some ⟨bm, om, none⟩) L2.length cm2) (fun r w1 hr hg hA => by obtain ⟨q0, ⟨_, q1⟩, -⟩ := hA; have q0e : r (.tmp 4) = .slice (some ⟨bm, om, none⟩) L2.length cm2 := q0; have q1e : r (.tmp 125) = .bool false := q1; exact ⟨⟨_, q1e, rfl⟩, by simp [go_sem, q0e]⟩) ?_
          refine tab_val (iv L2.length) (fun r w1 hr hg hA => by obtain ⟨⟨_, q0⟩, ⟨_, q1⟩, -⟩ := hA; have q0e : r (.tmp 127) = .slice (some ⟨bm, om, none⟩) L2.length cm2 := q0; have q1e : r (.tmp 125) = .bool false := q1; exact ⟨⟨_, q1e, rfl⟩, by simp [go_sem, q0e]⟩) ?_
          refine tab_val (.bool true) (fun r w1 hr hg hA => by obtain ⟨⟨_, q0⟩, ⟨_, q1⟩, -⟩ := hA; have q0e : r (.tmp 128) = iv L2.length := q0; have q1e : r (.tmp 125) = .bool false := q1; exact ⟨⟨_, q1e, rfl⟩, by simp [go_sem, hr.const, q0e, hL, hL0]⟩) ?_
          refine tab_val (.bool false) (fun r w1 hr hg hA => by obtain ⟨⟨_, q0⟩, ⟨_, q1⟩, ⟨_, q2⟩, -⟩ := hA; have q0e : r (.tmp 126) = .bool true := q0; have q1e : r (.tmp 129) = .bool true := q1; have q2e : r (.tmp 125) = .bool false := q2; exact ⟨⟨_, q2e, rfl⟩, by simp [go_sem, q0e, q1e]⟩) ?_
          refine tab_val (.bool false) (fun r w1 hr hg hA => by obtain ⟨⟨_, q0⟩, ⟨_, q1⟩, -⟩ := hA; have q0e : r (.tmp 125) = .bool false := q0; have q1e : r (.tmp 130) = .bool false := q1; exact ⟨rfl, by simp [go_sem, q0e, q1e]⟩) ?_
          refine tab_val (.bool false) (fun r w1 hr hg hA => by obtain ⟨⟨_, q0⟩, -⟩ := hA; have q0e : r (.tmp 131) = .bool false := q0; exact ⟨rfl, by simp [go_sem, q0e]⟩) ?_
          refine tab_val (.bool true) (fun r w1 hr hg hA => by obtain ⟨q0, ⟨_, q1⟩, -⟩ := hA; have q0e : r (.tmp 14) = .bool true := q0; have q1e : r (.tmp 132) = .bool false := q1; exact ⟨⟨_, q1e, rfl⟩, by simp [go_sem, q0e]⟩) ?_
          refine tab_val (.bool true) (fun r w1 hr hg hA => by obtain ⟨⟨_, q0⟩, ⟨_, q1⟩, -⟩ := hA; have q0e : r (.tmp 133) = .bool true := q0; have q1e : r (.tmp 132) = .bool false := q1; exact ⟨⟨_, q1e, rfl⟩, by simp [go_sem, q0e]⟩) ?_
          refine tab_val (en (ea, eb, ec)) (fun r w1 hr hg hA => by obtain ⟨q0, ⟨_, q1⟩, -⟩ := hA; have q0e : r (.tmp 13) = .pointer (some ⟨w2.heap.size, 0, none⟩) := q0; have q1e : r (.tmp 134) = .bool true := q1; have hc := And.intro (CX.out _ (hg1.trans hg)) (CM.out _ (hg1.trans hg)); exact ⟨⟨_, q1e, rfl⟩, by simp [go_sem, q0e, hc]⟩) ?_
          refine tab_val (.slice (some ⟨bm, om, none⟩) L2.length cm2) (fun r w1 hr hg hA => by obtain ⟨q0, ⟨_, q1⟩, -⟩ := hA; have q0e : r (.tmp 4) = .slice (some ⟨bm, om, none⟩) L2.length cm2 := q0; have q1e : r (.tmp 134) = .bool true := q1; exact ⟨⟨_, q1e, rfl⟩, by simp [go_sem, q0e]⟩) ?_
          refine tab_val (.pointer (some ⟨bm, om, none⟩)) (fun r w1 hr hg hA => by obtain ⟨⟨_, q0⟩, ⟨_, q1⟩, -⟩ := hA; have q0e : r (.tmp 136) = .slice (some ⟨bm, om, none⟩) L2.length cm2 := q0; have q1e : r (.tmp 134) = .bool true := q1; exact ⟨⟨_, q1e, rfl⟩, by simp [go_sem, hr.const, q0e, hL, hL0]⟩) ?_
          refine tab_val (en (ea, eb, ec)) (fun r w1 hr hg hA => by obtain ⟨⟨_, q0⟩, ⟨_, q1⟩, -⟩ := hA; have q0e : r (.tmp 137) = .pointer (some ⟨bm, om, none⟩) := q0; have q1e : r (.tmp 134) = .bool true := q1; have hc := And.intro (CX.out _ (hg1.trans hg)) (CM.out _ (hg1.trans hg)); exact ⟨⟨_, q1e, rfl⟩, by simp [go_sem, q0e, hc]⟩) ?_
          refine tab_val (.bool false) (fun r w1 hr hg hA => by obtain ⟨⟨_, q0⟩, ⟨_, q1⟩, ⟨_, q2⟩, -⟩ := hA; have q0e : r (.tmp 135) = en (ea, eb, ec) := q0; have q1e : r (.tmp 138) = en (ea, eb, ec) := q1; have q2e : r (.tmp 134) = .bool true := q2; exact ⟨⟨_, q2e, rfl⟩, by simp [go_sem, q0e, q1e]⟩) ?_
          refine tab_val (.bool false) (fun r w1 hr hg hA => by obtain ⟨⟨_, q0⟩, ⟨_, q1⟩, ⟨_, q2⟩, -⟩ := hA; have q0e : r (.tmp 134) = .bool true := q0; have q1e : r (.tmp 139) = .bool false := q1; have q2e : r (.tmp 132) = .bool false := q2; exact ⟨⟨_, q2e, rfl⟩, by simp [go_sem, q0e, q1e]⟩) ?_
          refine tab_val (.bool false) (fun r w1 hr hg hA => by obtain ⟨⟨_, q0⟩, ⟨_, q1⟩, -⟩ := hA; have q0e : r (.tmp 132) = .bool false := q0; have q1e : r (.tmp 140) = .bool false := q1; exact ⟨rfl, by simp [go_sem, q0e, q1e]⟩) ?_
          refine tab_val (.bool false) (fun r w1 hr hg hA => by obtain ⟨⟨_, q0⟩, -⟩ := hA; have q0e : r (.tmp 141) = .bool false := q0; exact ⟨rfl, by simp [go_sem, q0e]⟩) ?_
          refine tab_val (.pointer (some ⟨wo.heap.size, 1, none⟩)) (fun r w1 hr hg hA => by obtain ⟨q0, ⟨_, q1⟩, -⟩ := hA; have q0e : r (.tmp 6) = .pointer (some ⟨wo.heap.size, 0, none⟩) := q0; have q1e : r (.tmp 142) = .bool false := q1; exact ⟨⟨_, q1e, rfl⟩, by simp [go_sem, q0e]⟩) ?_
          refine tab_val (en (xa, xb, xc)) (fun r w1 hr hg hA => by obtain ⟨⟨_, q0⟩, ⟨_, q1⟩, -⟩ := hA; have q0e : r (.tmp 143) = .pointer (some ⟨wo.heap.size, 1, none⟩) := q0; have q1e : r (.tmp 142) = .bool false := q1; have hc := And.intro (CX.out _ (hg1.trans hg)) (CM.out _ (hg1.trans hg)); exact ⟨⟨_, q1e, rfl⟩, by simp [go_sem, q0e, hc]⟩) ?_
          refine tab_val (.pointer (some ⟨wo.heap.size, 4, none⟩)) (fun r w1 hr hg hA => by obtain ⟨q0, ⟨_, q1⟩, -⟩ := hA; have q0e : r (.tmp 6) = .pointer (some ⟨wo.heap.size, 0, none⟩) := q0; have q1e : r (.tmp 142) = .bool false := q1; exact ⟨⟨_, q1e, rfl⟩, by simp [go_sem, q0e]⟩) ?_
          refine tab_val (en (ya, yb, yc)) (fun r w1 hr hg hA => by obtain ⟨⟨_, q0⟩, ⟨_, q1⟩, -⟩ := hA; have q0e : r (.tmp 145) = .pointer (some ⟨wo.heap.size, 4, none⟩) := q0; have q1e : r (.tmp 142) = .bool false := q1; have hc := And.intro (CX.out _ (hg1.trans hg)) (CM.out _ (hg1.trans hg)); exact ⟨⟨_, q1e, rfl⟩, by simp [go_sem, q0e, hc]⟩) ?_
          refine tab_call (v := .bool lb) (fun w1 hg => HL1.out w1) (fun r w1 hr hg hA => by obtain ⟨⟨_, q0⟩, ⟨_, q1⟩, ⟨_, q2⟩, -⟩ := hA; have q0e : r (.tmp 144) = en (xa, xb, xc) := q0; have q1e : r (.tmp 146) = en (ya, yb, yc) := q1; have q2e : r (.tmp 142) = .bool false := q2; exact ⟨⟨_, q2e, rfl⟩, by simp [go_sem, hr.func, q0e, q1e]⟩) ?_
          refine tab_val (.pointer (some ⟨wo.heap.size, 1, none⟩)) (fun r w1 hr hg hA => by obtain ⟨q0, ⟨_, q1⟩, -⟩ := hA; have q0e : r (.tmp 6) = .pointer (some ⟨wo.heap.size, 0, none⟩) := q0; have q1e : r (.tmp 142) = .bool false := q1; exact ⟨⟨_, q1e, rfl⟩, by simp [go_sem, q0e]⟩) ?_
          refine tab_val (en (xa, xb, xc)) (fun r w1 hr hg hA => by obtain ⟨⟨_, q0⟩, ⟨_, q1⟩, -⟩ := hA; have q0e : r (.tmp 148) = .pointer (some ⟨wo.heap.size, 1, none⟩) := q0; have q1e : r (.tmp 142) = .bool false := q1; have hc := And.intro (CX.out _ (hg1.trans hg)) (CM.out _ (hg1.trans hg)); exact ⟨⟨_, q1e, rfl⟩, by simp [go_sem, q0e, hc]⟩) ?_
          refine tab_val (.pointer (some ⟨wo.heap.size, 4, none⟩)) (fun r w1 hr hg hA => by obtain ⟨q0, ⟨_, q1⟩, -⟩ := hA; have q0e : r (.tmp 6) = .pointer (some ⟨wo.heap.size, 0, none⟩) := q0; have q1e : r (.tmp 142) = .bool false := q1; exact ⟨⟨_, q1e, rfl⟩, by simp [go_sem, q0e]⟩) ?_
          refine tab_val (en (ya, yb, yc)) (fun r w1 hr hg hA => by obtain ⟨⟨_, q0⟩, ⟨_, q1⟩, -⟩ := hA; have q0e : r (.tmp 150) = .pointer (some ⟨wo.heap.size, 4, none⟩) := q0; have q1e : r (.tmp 142) = .bool false := q1; have hc := And.intro (CX.out _ (hg1.trans hg)) (CM.out _ (hg1.trans hg)); exact ⟨⟨_, q1e, rfl⟩, by simp [go_sem, q0e, hc]⟩) ?_
          refine tab_call (v := .bool lb) (fun w1 hg => HL2'.out w1) (fun r w1 hr hg hA => by obtain ⟨⟨_, q0⟩, ⟨_, q1⟩, ⟨_, q2⟩, -⟩ := hA; have q0e : r (.tmp 149) = en (xa, xb, xc) := q0; have q1e : r (.tmp 151) = en (ya, yb, yc) := q1; have q2e : r (.tmp 142) = .bool false := q2; exact ⟨⟨_, q2e, rfl⟩, by simp [go_sem, hr.func, q0e, q1e]⟩) ?_
          refine tab_val (.bool false) (fun r w1 hr hg hA => by obtain ⟨⟨_, q0⟩, ⟨_, q1⟩, ⟨_, q2⟩, -⟩ := hA; have q0e : r (.tmp 147) = .bool lb := q0; have q1e : r (.tmp 152) = .bool lb := q1; have q2e : r (.tmp 142) = .bool false := q2; exact ⟨⟨_, q2e, rfl⟩, by simp [go_sem, q0e, q1e]⟩) ?_
          refine tab_val (.bool false) (fun r w1 hr hg hA => by obtain ⟨⟨_, q0⟩, ⟨_, q1⟩, -⟩ := hA; have q0e : r (.tmp 142) = .bool false := q0; have q1e : r (.tmp 153) = .bool false := q1; exact ⟨rfl, by simp [go_sem, q0e, q1e]⟩) ?_
          refine tab_end ?_
          simp only [List.reverse_cons, List.reverse_nil, List.nil_append, List.cons_append, Out, BlockP, forall_eq, forall_const, Act.put, List.setIfInBounds_toArray, List.set_cons_succ, List.set_cons_zero]
          intro wA hgA
          have GB := Lib.hid (GAL.out.trans (hg1.trans hgA))
          intros
          clear hg1 hgA hg1' hw0 CX CM HLEN HALL HSM HL1 HL2'
          go_wp2
          refine ⟨⟨k + 1, some ⟨bm, om, none⟩, cm2, L2, v2, by simp, rfl, by omega, by omega, hl2k.out, hc2, E3.out.grows GB.out, H2.out, T3.out.grows GB.out, F2.out, G3.out.trans GB.out⟩, by simp only [intOf]; omega⟩
        · have hd : decide (0 < L2.length) = false := by simpa using hL
          rw [hd]
          have hL9 : L2 = [] := List.length_eq_zero_iff.1 (by omega)
          have HX2 := HX.out
          rw [hL9] at HX2
          cases HX2
          have HLz := Lib.hid hL
          clear hd hL9 hL
          go_wp2_with fail
          refine wp_region_tab 40 (by kernel_rfl) (by kernel_rfl) ?_
          intro w0 hw0 hg1 hg1'
          simp only [List.take_succ_cons, List.take_zero, List.drop_succ_cons, List.drop_zero]
          refine tab_call (v := iv L2.length) (fun w1 hg => HLEN.out w1 (hg1.trans hg)) (fun r w1 hr hg hA => by obtain ⟨q0, -⟩ := hA; have q0e : r (.tmp 3) = .pointer (some ⟨w.heap.size, 0, none⟩) := q0; exact ⟨rfl, by simp [go_sem, hr.func, q0e]⟩) ?_
          refine tab_val (.slice am2 L2.length cm2) (fun r w1 hr hg hA => by obtain ⟨q0, -⟩ := hA; have q0e : r (.tmp 4) = .slice am2 L2.length cm2 := q0; exact ⟨rfl, by simp [go_sem, q0e]⟩) ?_
          refine tab_val (iv L2.length) (fun r w1 hr hg hA => by obtain ⟨⟨_, q0⟩, -⟩ := hA; have q0e : r (.tmp 116) = .slice am2 L2.length cm2 := q0; exact ⟨rfl, by simp [go_sem, q0e]⟩) ?_
          refine tab_val (.bool false) (fun r w1 hr hg hA => by obtain ⟨⟨_, q0⟩, ⟨_, q1⟩, -⟩ := hA; have q0e : r (.tmp 115) = iv L2.length := q0; have q1e : r (.tmp 117) = iv L2.length := q1; exact ⟨rfl, by simp [go_sem, q0e, q1e]⟩) ?_
          refine tab_val (.bool false) (fun r w1 hr hg hA => by obtain ⟨⟨_, q0⟩, -⟩ := hA; have q0e : r (.tmp 118) = .bool false := q0; exact ⟨rfl, by simp [go_sem, q0e]⟩) ?_
          refine tab_callQ (fun v w1 => EntsAt w1 v (srtE L2)) (fun _ _ _ h hg => h.grows hg) (fun r w1 hr hg hA => by obtain ⟨q0, ⟨_, q1⟩, -⟩ := hA; have q0e : r (.tmp 3) = .pointer (some ⟨w.heap.size, 0, none⟩) := q0; have q1e : r (.tmp 119) = .bool false := q1; exact ⟨⟨_, q1e, rfl⟩, _, by simp [go_sem, hr.func, q0e], HALL.out w1 (hg1.trans hg)⟩) ?_
          refine tab_val (.slice am2 L2.length cm2) (fun r w1 hr hg hA => by obtain ⟨q0, ⟨_, q1⟩, -⟩ := hA; have q0e : r (.tmp 4) = .slice am2 L2.length cm2 := q0; have q1e : r (.tmp 119) = .bool false := q1; exact ⟨⟨_, q1e, rfl⟩, by simp [go_sem, q0e]⟩) ?_
          refine tab_callP (v := .bool true) (fun r w1 hr hg hA => by obtain ⟨⟨_, q0⟩, ⟨_, q1⟩, ⟨_, q2⟩, -⟩ := hA; have q1e : r (.tmp 121) = .slice am2 L2.length cm2 := q1; have q2e : r (.tmp 119) = .bool false := q2; exact ⟨⟨_, q2e, rfl⟩, #[r (.tmp 120), .slice am2 L2.length cm2], by simp [go_sem, hr.func, q1e], HSM.out _ w1 (hg1.trans hg) q0⟩) ?_
          refine tab_val (.bool false) (fun r w1 hr hg hA => by obtain ⟨⟨_, q0⟩, ⟨_, q1⟩, -⟩ := hA; have q0e : r (.tmp 122) = .bool true := q0; have q1e : r (.tmp 119) = .bool false := q1; exact ⟨⟨_, q1e, rfl⟩, by simp [go_sem, q0e]⟩) ?_
          refine tab_val (.bool false) (fun r w1 hr hg hA => by obtain ⟨⟨_, q0⟩, ⟨_, q1⟩, -⟩ := hA; have q0e : r (.tmp 119) = .bool false := q0; have q1e : r (.tmp 123) = .bool false := q1; exact ⟨rfl, by simp [go_sem, q0e, q1e]⟩) ?_
          refine tab_val (.bool false) (fun r w1 hr hg hA => by obtain ⟨⟨_, q0⟩, -⟩ := hA; have q0e : r (.tmp 124) = .bool false := q0; exact ⟨rfl, by simp [go_sem, q0e]⟩) ?_
          refine tab_val (.bool false) (fun r w1 hr hg hA => by obtain ⟨q0, ⟨_, q1⟩, -⟩ := hA; have q0e : r (.tmp 14) = .bool false := q0; have q1e : r (.tmp 125) = .bool false := q1; exact ⟨⟨_, q1e, rfl⟩, by simp [go_sem, q0e]⟩) ?_
          refine tab_val (.slice am2 L2.length cm2) (fun r w1 hr hg hA => by obtain ⟨q0, ⟨_, q1⟩, -⟩ := hA; have q0e : r (.tmp 4) = .slice am2 L2.length cm2 := q0; have q1e : r (.tmp 125) = .bool false := q1; exact ⟨⟨_, q1e, rfl⟩, by simp [go_sem, q0e]⟩) ?_
          refine tab_val (iv L2.length) (fun r w1 hr hg hA => by obtain ⟨⟨_, q0⟩, ⟨_, q1⟩, -⟩ := hA; have q0e : r (.tmp 127) = .slice am2 L2.length cm2 := q0; have q1e : r (.tmp 125) = .bool false := q1; exact ⟨⟨_, q1e, rfl⟩, by simp [go_sem, q0e]⟩) ?_
          refine tab_val (.bool false) (fun r w1 hr hg hA => by obtain ⟨⟨_, q0⟩, ⟨_, q1⟩, -⟩ := hA; have q0e : r (.tmp 128) = iv L2.length := q0; have q1e : r (.tmp 125) = .bool false := q1; exact ⟨⟨_, q1e, rfl⟩, by simp [go_sem, hr.const, q0e, HLz.out]⟩) ?_
          refine tab_val (.bool false) (fun r w1 hr hg hA => by obtain ⟨⟨_, q0⟩, ⟨_, q1⟩, ⟨_, q2⟩, -⟩ := hA; have q0e : r (.tmp 126) = .bool false := q0; have q1e : r (.tmp 129) = .bool false := q1; have q2e : r (.tmp 125) = .bool false := q2; exact ⟨⟨_, q2e, rfl⟩, by simp [go_sem, q0e, q1e]⟩) ?_
          refine tab_val (.bool false) (fun r w1 hr hg hA => by obtain ⟨⟨_, q0⟩, ⟨_, q1⟩, -⟩ := hA; have q0e : r (.tmp 125) = .bool false := q0; have q1e : r (.tmp 130) = .bool false := q1; exact ⟨rfl, by simp [go_sem, q0e, q1e]⟩) ?_
          refine tab_val (.bool false) (fun r w1 hr hg hA => by obtain ⟨⟨_, q0⟩, -⟩ := hA; have q0e : r (.tmp 131) = .bool false := q0; exact ⟨rfl, by simp [go_sem, q0e]⟩) ?_
          refine tab_val (.bool false) (fun r w1 hr hg hA => by obtain ⟨q0, ⟨_, q1⟩, -⟩ := hA; have q0e : r (.tmp 14) = .bool false := q0; have q1e : r (.tmp 132) = .bool false := q1; exact ⟨⟨_, q1e, rfl⟩, by simp [go_sem, q0e]⟩) ?_
          refine tab_val (.bool false) (fun r w1 hr hg hA => by obtain ⟨⟨_, q0⟩, ⟨_, q1⟩, -⟩ := hA; have q0e : r (.tmp 133) = .bool false := q0; have q1e : r (.tmp 132) = .bool false := q1; exact ⟨⟨_, q1e, rfl⟩, by simp [go_sem, q0e]⟩) ?_
          refine tab_skip (fun r w1 hr hg hA => by obtain ⟨q0, ⟨_, q1⟩, -⟩ := hA; have q0e : r (.tmp 13) = .pointer (some ⟨w2.heap.size, 0, none⟩) := q0; have q1e : r (.tmp 134) = .bool false := q1; exact ⟨_, q1e, rfl⟩) ?_
          refine tab_skip (fun r w1 hr hg hA => by obtain ⟨q0, ⟨_, q1⟩, -⟩ := hA; have q0e : r (.tmp 4) = .slice am2 L2.length cm2 := q0; have q1e : r (.tmp 134) = .bool false := q1; exact ⟨_, q1e, rfl⟩) ?_
          refine tab_skip (fun r w1 hr hg hA => by obtain ⟨⟨_, q0⟩, ⟨_, q1⟩, -⟩ := hA; have q0e : r (.tmp 136) = undef := q0; have q1e : r (.tmp 134) = .bool false := q1; exact ⟨_, q1e, rfl⟩) ?_
          refine tab_skip (fun r w1 hr hg hA => by obtain ⟨⟨_, q0⟩, ⟨_, q1⟩, -⟩ := hA; have q0e : r (.tmp 137) = undef := q0; have q1e : r (.tmp 134) = .bool false := q1; exact ⟨_, q1e, rfl⟩) ?_
          refine tab_skip (fun r w1 hr hg hA => by obtain ⟨⟨_, q0⟩, ⟨_, q1⟩, ⟨_, q2⟩, -⟩ := hA; have q0e : r (.tmp 135) = undef := q0; have q1e : r (.tmp 138) = undef := q1; have q2e : r (.tmp 134) = .bool false := q2; exact ⟨_, q2e, rfl⟩) ?_
          refine tab_val (.bool false) (fun r w1 hr hg hA => by obtain ⟨⟨_, q0⟩, ⟨_, q1⟩, ⟨_, q2⟩, -⟩ := hA; have q0e : r (.tmp 134) = .bool false := q0; have q1e : r (.tmp 139) = undef := q1; have q2e : r (.tmp 132) = .bool false := q2; exact ⟨⟨_, q2e, rfl⟩, by simp [go_sem, hr.const, q0e]⟩) ?_
          refine tab_val (.bool false) (fun r w1 hr hg hA => by obtain ⟨⟨_, q0⟩, ⟨_, q1⟩, -⟩ := hA; have q0e : r (.tmp 132) = .bool false := q0; have q1e : r (.tmp 140) = .bool false := q1; exact ⟨rfl, by simp [go_sem, q0e, q1e]⟩) ?_
          refine tab_val (.bool false) (fun r w1 hr hg hA => by obtain ⟨⟨_, q0⟩, -⟩ := hA; have q0e : r (.tmp 141) = .bool false := q0; exact ⟨rfl, by simp [go_sem, q0e]⟩) ?_
          refine tab_val (.pointer (some ⟨wo.heap.size, 1, none⟩)) (fun r w1 hr hg hA => by obtain ⟨q0, ⟨_, q1⟩, -⟩ := hA; have q0e : r (.tmp 6) = .pointer (some ⟨wo.heap.size, 0, none⟩) := q0; have q1e : r (.tmp 142) = .bool false := q1; exact ⟨⟨_, q1e, rfl⟩, by simp [go_sem, q0e]⟩) ?_
          refine tab_val (en (xa, xb, xc)) (fun r w1 hr hg hA => by obtain ⟨⟨_, q0⟩, ⟨_, q1⟩, -⟩ := hA; have q0e : r (.tmp 143) = .pointer (some ⟨wo.heap.size, 1, none⟩) := q0; have q1e : r (.tmp 142) = .bool false := q1; have hc := CX.out _ (hg1.trans hg); exact ⟨⟨_, q1e, rfl⟩, by simp [go_sem, q0e, hc]⟩) ?_
          refine tab_val (.pointer (some ⟨wo.heap.size, 4, none⟩)) (fun r w1 hr hg hA => by obtain ⟨q0, ⟨_, q1⟩, -⟩ := hA; have q0e : r (.tmp 6) = .pointer (some ⟨wo.heap.size, 0, none⟩) := q0; have q1e : r (.tmp 142) = .bool false := q1; exact ⟨⟨_, q1e, rfl⟩, by simp [go_sem, q0e]⟩) ?_
          refine tab_val (en (ya, yb, yc)) (fun r w1 hr hg hA => by obtain ⟨⟨_, q0⟩, ⟨_, q1⟩, -⟩ := hA; have q0e : r (.tmp 145) = .pointer (some ⟨wo.heap.size, 4, none⟩) := q0; have q1e : r (.tmp 142) = .bool false := q1; have hc := CX.out _ (hg1.trans hg); exact ⟨⟨_, q1e, rfl⟩, by simp [go_sem, q0e, hc]⟩) ?_
          refine tab_call (v := .bool lb) (fun w1 hg => HL1.out w1) (fun r w1 hr hg hA => by obtain ⟨⟨_, q0⟩, ⟨_, q1⟩, ⟨_, q2⟩, -⟩ := hA; have q0e : r (.tmp 144) = en (xa, xb, xc) := q0; have q1e : r (.tmp 146) = en (ya, yb, yc) := q1; have q2e : r (.tmp 142) = .bool false := q2; exact ⟨⟨_, q2e, rfl⟩, by simp [go_sem, hr.func, q0e, q1e]⟩) ?_
          refine tab_val (.pointer (some ⟨wo.heap.size, 1, none⟩)) (fun r w1 hr hg hA => by obtain ⟨q0, ⟨_, q1⟩, -⟩ := hA; have q0e : r (.tmp 6) = .pointer (some ⟨wo.heap.size, 0, none⟩) := q0; have q1e : r (.tmp 142) = .bool false := q1; exact ⟨⟨_, q1e, rfl⟩, by simp [go_sem, q0e]⟩) ?_
          refine tab_val (en (xa, xb, xc)) (fun r w1 hr hg hA => by obtain ⟨⟨_, q0⟩, ⟨_, q1⟩, -⟩ := hA; have q0e : r (.tmp 148) = .pointer (some ⟨wo.heap.size, 1, none⟩) := q0; have q1e : r (.tmp 142) = .bool false := q1; have hc := CX.out _ (hg1.trans hg); exact ⟨⟨_, q1e, rfl⟩, by simp [go_sem, q0e, hc]⟩) ?_
          refine tab_val (.pointer (some ⟨wo.heap.size, 4, none⟩)) (fun r w1 hr hg hA => by obtain ⟨q0, ⟨_, q1⟩, -⟩ := hA; have q0e : r (.tmp 6) = .pointer (some ⟨wo.heap.size, 0, none⟩) := q0; have q1e : r (.tmp 142) = .bool false := q1; exact ⟨⟨_, q1e, rfl⟩, by simp [go_sem, q0e]⟩) ?_
          refine tab_val (en (ya, yb, yc)) (fun r w1 hr hg hA => by obtain ⟨⟨_, q0⟩, ⟨_, q1⟩, -⟩ := hA; have q0e : r (.tmp 150) = .pointer (some ⟨wo.heap.size, 4, none⟩) := q0; have q1e : r (.tmp 142) = .bool false := q1; have hc := CX.out _ (hg1.trans hg); exact ⟨⟨_, q1e, rfl⟩, by simp [go_sem, q0e, hc]⟩) ?_
          refine tab_call (v := .bool lb) (fun w1 hg => HL2'.out w1) (fun r w1 hr hg hA => by obtain ⟨⟨_, q0⟩, ⟨_, q1⟩, ⟨_, q2⟩, -⟩ := hA; have q0e : r (.tmp 149) = en (xa, xb, xc) := q0; have q1e : r (.tmp 151) = en (ya, yb, yc) := q1; have q2e : r (.tmp 142) = .bool false := q2; exact ⟨⟨_, q2e, rfl⟩, by simp [go_sem, hr.func, q0e, q1e]⟩) ?_
          refine tab_val (.bool false) (fun r w1 hr hg hA => by obtain ⟨⟨_, q0⟩, ⟨_, q1⟩, ⟨_, q2⟩, -⟩ := hA; have q0e : r (.tmp 147) = .bool lb := q0; have q1e : r (.tmp 152) = .bool lb := q1; have q2e : r (.tmp 142) = .bool false := q2; exact ⟨⟨_, q2e, rfl⟩, by simp [go_sem, q0e, q1e]⟩) ?_
          refine tab_val (.bool false) (fun r w1 hr hg hA => by obtain ⟨⟨_, q0⟩, ⟨_, q1⟩, -⟩ := hA; have q0e : r (.tmp 142) = .bool false := q0; have q1e : r (.tmp 153) = .bool false := q1; exact ⟨rfl, by simp [go_sem, q0e, q1e]⟩) ?_
          refine tab_end ?_
          simp only [List.reverse_cons, List.reverse_nil, List.nil_append, List.cons_append, Out, BlockP, forall_eq, forall_const, Act.put, List.setIfInBounds_toArray, List.set_cons_succ, List.set_cons_zero]
          intro wA hgA
          have GB := Lib.hid (GAL.out.trans (hg1.trans hgA))
          intros
          clear hg1 hgA hg1' hw0 CX HLEN HALL HSM HL1 HL2'
          go_wp2
          refine ⟨⟨k + 1, am2, cm2, L2, v2, by simp, rfl, by omega, by omega, hl2k.out, hc2, E3.out.grows GB.out, H2.out, T3.out.grows GB.out, F2.out, G3.out.trans GB.out⟩, by simp only [intOf]; omega⟩
    · by_cases h1 : k < n
      · have d8 : decide ((k : Int) < 80) = false := by simp; omega
        have h80 : ¬ k < 80 := fun h => hlt ⟨h1, h⟩
        go_wp2_with fail
        refine (kn_any _).mono ?_
        rintro _ w4 ⟨rfl, hg⟩
        have G4 := Lib.hid (G.out.trans hg)
        clear hg
        go_wp2
        go_ret
        exact ⟨rfl, G4.out⟩
      · go_wp2_with fail
        refine (kn_any _).mono ?_
        rintro _ w4 ⟨rfl, hg⟩
        have G4 := Lib.hid (G.out.trans hg)
        clear hg
        go_wp2
        go_ret
        exact ⟨rfl, G4.out⟩
end Go.Proofs.Ytcmlcoedgfehgaa
