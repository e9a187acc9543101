/-
  Layer 2: the document's cuts: put in one by one.
-/
import Derived.Test.YtlgplhanhnjeiaaM10
import Derived.Test.YtlgplhanhnjeiaaTQ
import Derived.Test.YtlgplhanhnjeiaaRC
namespace Go.Proofs.Ytlgplhanhnjeiaa
open Go.RowKit Go.Tab Go.Sort

def leC (c d : Cut) : Prop := c.2.1 * d.2.2 ≤ d.2.1 * c.2.2
theorem leC_trans {x y z : Cut} (hx : okC x) (hy : okC y) (hz : okC z) (h1 : leC x y) (h2 : leC y z) : leC x z := frac_le hx.2.2.1 hy.2.2.1 hz.2.2.1 h1 h2
theorem put_ok {l : List Cut} {c : Cut} {k : Nat} (hs : ByFrac l) (hl : ∀ x ∈ l, okC x) (hc : okC c) (hk : k ≤ l.length)
    (h1 : ∀ j (hj : j < l.length), k ≤ j → leC c l[j]) (h2 : ∀ j (hj : j < l.length), j + 1 = k → leC l[j] c) : ByFrac (l.take k ++ c :: l.drop k) ∧ (l.take k ++ c :: l.drop k).Perm (c :: l) := by
  constructor
  · have hs' := hs
    unfold ByFrac at hs' ⊢
    rw [← List.take_append_drop k l, List.pairwise_append] at hs'
    refine List.pairwise_append.2 ⟨hs'.1, List.pairwise_cons.2 ⟨fun y hy => ?_, hs'.2.1⟩, fun x hx y hy => ?_⟩
    · obtain ⟨j, hj, rfl⟩ := List.getElem_of_mem hy
      rw [List.length_drop] at hj
      rw [List.getElem_drop]
      exact h1 (k + j) (by omega) (by omega)
    · rcases List.mem_cons.1 hy with rfl | hy
      · obtain ⟨i, hi, rfl⟩ := List.getElem_of_mem hx
        rw [List.length_take] at hi
        rw [List.getElem_take]
        obtain ⟨j, rfl⟩ : ∃ j, k = j + 1 := ⟨k - 1, by omega⟩
        have h3 := h2 j (by omega) rfl
        rcases Nat.lt_or_ge i j with h4 | h4
        · have h5 : leC l[i] l[j] := (List.pairwise_iff_getElem.1 hs) i j (by omega) (by omega) h4
          exact leC_trans (hl _ (List.getElem_mem _)) (hl _ (List.getElem_mem _)) hc h5 h3
        · have h6 : i = j := by omega
          subst h6; exact h3
      · exact hs'.2.2 x hx y hy
  · have : (l.take k ++ c :: l.drop k).Perm (c :: (l.take k ++ l.drop k)) := List.perm_middle
    rwa [List.take_append_drop] at this
theorem infoRC : (Try.prog.info? 67).map (fun i => (i.zero, i.size, i.bytes)) = some (some (.agg #[.int .i64 0, .int .i64 0, .int .i64 0, .int .i64 0]), 4, 32) := by kernel_rfl
theorem ccells_len (l : List Cut) : (ccells l).length = l.length * 4 := by
  induction l with
  | nil => rfl
  | cons c l ih => simp only [ccells, List.flatMap_cons, List.length_append, List.length_cons, List.length_nil] at ih ⊢; omega
theorem ccells_append (l m : List Cut) : ccells (l ++ m) = ccells l ++ ccells m := by simp [ccells]
theorem ccells_one {l : List Cut} : ∀ v ∈ ccells l, v.oneCell' = true := by
  intro v hv
  obtain ⟨c, -, hc⟩ := List.mem_flatMap.1 hv
  simp only [List.mem_cons, List.not_mem_nil, or_false] at hc
  rcases hc with rfl | rfl | rfl | rfl <;> rfl
/-- A part of an owned row of cuts reads as a row. -/
theorem row_part {w : World} {B : Nat} {T : TypeId} {g n cap : Nat} {l : List Cut} (h : w.ownsRow B T 4 (.slice (some ⟨g, 0, none⟩) n cap) n (ccells l)) (hn : l.length = n) (p m c : Nat) (hm : p + m ≤ n) : RowAt 4 w (.slice (some ⟨g, p * 4, none⟩) m c) m (ccells ((l.drop p).take m)) := by
  have hlen : ((l.drop p).take m).length = m := by rw [List.length_take, List.length_drop]; omega
  refine ⟨by rw [ccells_len, hlen], ccells_one, .inr ⟨g, p * 4, c, rfl, ?_, fun j v hj => ?_⟩⟩
  · obtain ⟨-, ⟨hv, -⟩ | ⟨g', cap', cur, hv, -, hh, -⟩⟩ := h
    · cases hv
    · cases hv; exact (Array.getElem?_eq_some_iff.1 hh).1
  · have hj4 : j < m * 4 := by
      have := (List.getElem?_eq_some_iff.1 hj).1
      rw [ccells_len, hlen] at this
      exact this
    have e : (ccells ((l.drop p).take m))[j]? = (ccells l)[p * 4 + j]? := by
      have e1 : ccells l = ccells (l.take p) ++ (ccells ((l.drop p).take m) ++ ccells ((l.drop p).drop m)) := by
        rw [← ccells_append, ← ccells_append, List.take_append_drop, List.take_append_drop]
      have e2 : (ccells (l.take p)).length = p * 4 := by rw [ccells_len, List.length_take]; omega
      rw [e1, List.getElem?_append_right (by omega), e2, show p * 4 + j - p * 4 = j by omega, List.getElem?_append_left (by rw [ccells_len, hlen]; exact hj4)]
    rw [h.cellAt (p * 4 + j) (by omega), ← e, hj]
abbrev cutV (c : Cut) : Value := .agg #[.int .i64 c.1.1, .int .i64 c.1.2, .int .i64 c.2.1, .int .i64 c.2.2]

set_option maxRecDepth 100000 in
set_option maxHeartbeats 4000000 in
theorem rput_any (o : Value) (l : List Cut) (c : Cut) (B n : Nat) (w : World) (h : w.ownsRow B 67 4 o n (ccells l)) (hn : l.length = n) (hl : ∀ x ∈ l, okC x) (hc : okC c) (hs : ByFrac l) (hm : n ≤ 1000) :
    Calls Try.prog 33 #[o, cutV c] w fun e w' => ∃ o' s, e = .returned o' ∧ s.Perm (c :: l) ∧ ByFrac s ∧ w'.ownsRow w.heap.size 67 4 o' (n + 1) (ccells s) ∧ Grows w w' := by
  obtain ⟨i0, hi0, hz0, hz1, hz2⟩ := info_parts infoRC
  obtain ⟨ao, co, ho, hao, hnco⟩ : ∃ ao co, o = .slice ao n co ∧ ((ao = none ∧ co = 0 ∧ n = 0) ∨ ∃ g, ao = some ⟨g, 0, none⟩) ∧ n ≤ co := by
    obtain ⟨-, ⟨hv, h0⟩ | ⟨g, cap, cur, hv, -, -, hcp, -⟩⟩ := id h
    · exact ⟨none, 0, by rw [hv, h0], .inl ⟨rfl, rfl, h0⟩, by omega⟩
    · exact ⟨_, _, hv, .inr ⟨g, rfl⟩, hcp⟩
  subst ho
  have HO := Lib.hid h
  have HN := Lib.hid hn
  have HC := Lib.hid hc
  have HL := Lib.hid hl
  have HS := Lib.hid hs
  clear h hn hc hl hs
  obtain ⟨⟨px, py⟩, f, d⟩ := c
  have G : Hid (Grows w (w.alloc (.cells #[.int .i64 px, .int .i64 py, .int .i64 f, .int .i64 d] 67))) := Lib.hid (Grows.alloc _ _)
  have BX := Lib.hid (heap_new w (.cells #[.int .i64 px, .int .i64 py, .int .i64 f, .int .i64 d] 67) _ rfl)
  unfold cutV
  go_enter Try.func33, Try.ntmps33
  go_wp2_with fail
  generalize w.alloc (.cells #[.int .i64 px, .int .i64 py, .int .i64 f, .int .i64 d] 67) = wb at G BX ⊢
  have HF : Hid (∀ w', Grows wb w' → _) := Lib.hid (fun w' (hg : Grows wb w') => cells4q (hg.block BX.out))
  go_loopw [5] (fun i wr => ∃ k : Nat, i = .int .i64 (k : Int) ∧ k ≤ n ∧ Hid (∀ j (hj : j < l.length), k ≤ j → leC ((px, py), f, d) l[j]) ∧ Hid (Grows wb wr)) (fun i _ => (intOf i).toNat)
  case atStart => exact ⟨n, rfl, Nat.le_refl _, Lib.hid (fun j hj h => absurd hj (by rw [HN.out]; omega)), Lib.hid (Grows.refl _)⟩
  case round =>
    obtain ⟨k, rfl, hk, HJ, GR⟩ := hrel
    go_upto_region 2 with (fail)
    go_cut [31] from 9 to 31 (fun v wx => v = .bool (decide (0 < k ∧ f * l[k - 1]!.2.2 < l[k - 1]!.2.1 * d)) ∧ Hid (Grows wb wx))
    case first =>
      by_cases hk0 : 0 < k
      · obtain ⟨g, rfl⟩ : ∃ g, ao = some ⟨g, 0, none⟩ := by
          rcases hao with ⟨-, -, h0⟩ | h
          · omega
          · exact h
        obtain ⟨j, hj⟩ : ∃ j, j = k - 1 := ⟨_, rfl⟩
        have e1 : (k : Int) - 1 = (j : Int) := by omega
        have hjn : j < n := by omega
        have hkz : (0 : Int) < (k : Int) := by omega
        have hqe : l[k - 1]! = l[j]! := by rw [hj]
        obtain ⟨f0, f1, f2, f3⟩ := own4_cells (ownsRow_grows HO.out (G.out.trans GR.out)) HN.out hjn
        have hq := HL.out l[j]! (by rw [getElem!_pos l j (by rw [HN.out]; exact hjn)]; exact List.getElem_mem _)
        generalize l[j]! = q at f0 f1 f2 f3 hq hqe
        obtain ⟨⟨qx, qy⟩, qf, qd⟩ := q
        obtain ⟨c0, c1, c2, c3⟩ := HF.out wr GR.out
        obtain ⟨s1, s2, s3, s4⟩ := hq
        obtain ⟨s5, s6, s7, s8⟩ := HC.out
        obtain ⟨p1, p2⟩ := @mul_small f qd ⟨s5, s6⟩ ⟨Int.le_of_lt s3, s4⟩
        obtain ⟨p3, p4⟩ := @mul_small qf d ⟨s1, s2⟩ ⟨Int.le_of_lt s7, s8⟩
        have k0 : decide ((0 : Int) < (k : Int)) = true := decide_eq_true hkz
        have hD : Hid (decide (0 < k ∧ f * l[k - 1]!.2.2 < l[k - 1]!.2.1 * d) = decide (f * qd < qf * d)) := Lib.hid (by rw [hqe]; simp [hk0])
        simp only at f0 f1 f2 f3
        clear s1 s2 s3 s4 s5 s6 s7 s8 hj hqe
        go_quiet (fail)
        go_wp2_with fail
        go_meet
        exact ⟨congrArg Value.bool hD.out.symm, Lib.hid (GR.out.trans ⟨rfl, rfl, rfl, Nat.le_refl _, fun _ _ => rfl⟩)⟩
      · have k0 : decide ((0 : Int) < (k : Int)) = false := decide_eq_false (by omega)
        have hD : Hid (decide (0 < k ∧ f * l[k - 1]!.2.2 < l[k - 1]!.2.1 * d) = false) := Lib.hid (decide_eq_false (fun h => hk0 h.1))
        go_wp2_with fail
        go_quiet (fail)
        go_wp2_with fail
        go_meet
        exact ⟨congrArg Value.bool hD.out.symm, Lib.hid (GR.out.trans ⟨rfl, rfl, rfl, Nat.le_refl _, fun _ _ => rfl⟩)⟩
    case rest =>
      obtain ⟨rfl, GX⟩ := hcut
      by_cases hq : 0 < k ∧ f * l[k - 1]!.2.2 < l[k - 1]!.2.1 * d
      · rw [decide_eq_true hq]
        obtain ⟨hk0, hlt⟩ := hq
        obtain ⟨j, hj⟩ : ∃ j, j = k - 1 := ⟨_, rfl⟩
        have e1 : (k : Int) - 1 = (j : Int) := by omega
        rw [← hj] at hlt
        have HJ2 : Hid (∀ j' (hj : j' < l.length), j ≤ j' → leC ((px, py), f, d) l[j']) := Lib.hid (fun j' hj' h => by
          rcases Nat.lt_or_ge j j' with h1 | h1
          · exact HJ.out j' hj' (by omega)
          · obtain rfl : j' = j := by omega
            rw [getElem!_pos l j' hj'] at hlt
            exact Int.le_of_lt hlt)
        clear hlt
        go_wp2
        exact ⟨⟨j, by rw [hj], by omega, HJ2, GX⟩, by simp only [intOf]; omega⟩
      · rw [decide_eq_false hq]
        have HK2 : Hid (∀ j (hj : j < l.length), j + 1 = k → leC l[j] ((px, py), f, d)) := Lib.hid (fun j hj h => by
          have h2 : ¬ (f * l[j]!.2.2 < l[j]!.2.1 * d) := fun h3 => hq ⟨by omega, by rw [← h]; exact h3⟩
          rw [getElem!_pos l j hj] at h2
          exact Int.not_lt.1 h2)
        have HP := Lib.hid (put_ok HS.out HL.out HC.out (by rw [HN.out]; exact hk) HJ.out HK2.out)
        clear hq HJ HK2 GR
        have HRT : Hid (RowAt 4 w (.slice ao k co) k (ccells (l.take k))) := Lib.hid (by
          rcases hao with ⟨rfl, rfl, h0⟩ | ⟨g, rfl⟩
          · have : k = 0 := by omega
            subst this
            exact ⟨rfl, by simp [ccells], .inl ⟨rfl, _, _, rfl, fun _ => rfl⟩⟩
          · have := row_part HO.out HN.out 0 k co (by omega)
            rw [Nat.zero_mul] at this
            exact this)
        have HRD : Hid (∀ a c, (0 < n - k → ∃ g, ao = some ⟨g, 0, none⟩ ∧ a = some ⟨g, k * 4, none⟩) → (a = none → c = 0) → RowAt 4 w (.slice a (n - k) c) (n - k) (ccells (l.drop k))) := Lib.hid (fun a c h1 h2 => by
          by_cases hnk : n - k = 0
          · rw [List.drop_eq_nil_of_le (by rw [HN.out]; omega), hnk]
            exact ⟨rfl, by simp [ccells], .inl ⟨rfl, _, _, rfl, h2⟩⟩
          · obtain ⟨g, rfl, rfl⟩ := h1 (by omega)
            have := row_part HO.out HN.out k (n - k) c (by omega)
            rw [List.take_of_length_le (by rw [List.length_drop, HN.out]; exact Nat.le_refl _)] at this
            exact this)
        have hkc : ¬ co < k := by omega
        have hmap : Option.map (fun x : Addr => x.add 0) ao = ao := by
          rcases hao with ⟨rfl, -, -⟩ | ⟨g, rfl⟩ <;> rfl
        go_wp2_with fail
        refine wp_region_tab 7 (by kernel_rfl) (by kernel_rfl) ?_
        intro w0 hw0 hg1 hg1'
        simp only [List.take_succ_cons, List.take_zero, List.drop_succ_cons, List.drop_zero]
        refine tab_empty 67 (fun r w1 hr hg hA => by exact ⟨rfl, by simp [go_sem]⟩) ?_
        refine tab_val (.slice ao n co) (fun r w1 hr hg hA => by obtain ⟨q0, -⟩ := hA; have q0e : r (.tmp 0) = .slice ao n co := q0; exact ⟨rfl, by simp [go_sem, q0e]⟩) ?_
        refine tab_val (.int .i64 (k : Int)) (fun r w1 hr hg hA => by obtain ⟨q0, -⟩ := hA; have q0e : r (.tmp 5) = .int .i64 (k : Int) := q0; exact ⟨rfl, by simp [go_sem, q0e]⟩) ?_
        refine tab_val (.slice ao k co) (fun r w1 hr hg hA => by obtain ⟨⟨_, q0⟩, ⟨_, q1⟩, -⟩ := hA; have q0e : r (.tmp 35) = .slice ao n co := q0; have q1e : r (.tmp 36) = .int .i64 (k : Int) := q1; exact ⟨rfl, by simp [go_sem, q0e, q1e, hkc, hmap]⟩) ?_
        refine tab_append0 (.tmp 34) (.tmp 37) 64 67 i0 (.agg #[.int .i64 0, .int .i64 0, .int .i64 0, .int .i64 0]) 4 32 k (ccells (l.take k)) rfl Try.underlying64 hi0 hz0 hz1 hz2 rfl (by decide) (by unfold maxLen; omega) (by omega) (fun r w1 hr hg hA => by obtain ⟨⟨_, q0⟩, ⟨_, q1⟩, -⟩ := hA; have q1e : r (.tmp 37) = .slice ao k co := q1; exact ⟨rfl, q0, by rw [q1e]; exact HRT.out.grows (G.out.trans (GX.out.trans (hg1.trans hg)))⟩) ?_
        refine tab_val (.agg #[.int .i64 px, .int .i64 py, .int .i64 f, .int .i64 d]) (fun r w1 hr hg hA => by obtain ⟨q0, -⟩ := hA; have q0e : r (.tmp 3) = .pointer (some ⟨w.heap.size, 0, none⟩) := q0; have hc := HF.out w1 (GX.out.trans (hg1.trans hg)); exact ⟨rfl, by simp [go_sem, q0e, hc]⟩) ?_
        refine tab_block (.cells #[.int .i64 px, .int .i64 py, .int .i64 f, .int .i64 d] 67 (0, 0)) (fun b => .slice (some ⟨b, 0, none⟩) 1 1) (fun r w1 hr hg hA => by obtain ⟨⟨_, q0⟩, -⟩ := hA; have q0e : r (.tmp 39) = .agg #[.int .i64 px, .int .i64 py, .int .i64 f, .int .i64 d] := q0; exact ⟨rfl, by simp [go_sem, q0e]⟩) ?_
        refine tab_end ?_
        simp only [List.reverse_cons, List.reverse_nil, List.nil_append, List.cons_append, Out, BlockP, forall_eq, forall_const, Act.put, List.setIfInBounds_toArray, List.set_cons_succ, List.set_cons_zero]
        rintro wc2 hgA v34 - v38 hv38 u40 ⟨b40, rfl, hb40⟩
        have GW := Lib.hid (G.out.trans (GX.out.trans (hg1.trans hgA)))
        have HO1 := Lib.hid hv38
        have HB4 := Lib.hid hb40
        have HWW : Hid (w.heap.size ≤ w0.heap.size) := Lib.hid (G.out.trans (GX.out.trans hg1)).size
        clear hg1 hgA hg1' hw0 HRT hv38 hb40 hmap
        go_upto_region 5 with (at_builtin; go_loud (refine append_row2 rfl _ _ 64 rfl w.heap.size 67 i0 _ 4 32 Try.underlying64 hi0 hz0 hz1 hz2 rfl (by decide) v38 k (ccells (l.take k)) rfl (own_base HO1.out HWW.out) 1 [.int .i64 px, .int .i64 py, .int .i64 f, .int .i64 d] _ rfl (row_four HB4.out rfl rfl rfl rfl) (by unfold maxLen; omega) (by omega) GW.out.size ?_; intro o2 wd hown hgr; have HO2 : Hid (wd.ownsRow w.heap.size 67 4 o2 (k + 1) (ccells (l.take k ++ [((px, py), f, d)]))) := Lib.hid (by rw [ccells_append]; exact hown); have GW2 := Lib.hid (grown_all (own_base HO1.out HWW.out) GW.out hgr); clear hown hgr HO1 HB4))
        have HRD2 := Lib.hid (fun a c h1 h2 => (HRD.out a c h1 h2).grows GW2.out)
        rcases hao with ⟨rfl, rfl, h0⟩ | ⟨g, rfl⟩
        · obtain rfl : k = 0 := by omega
          subst h0
          have R1 : RowAt 4 wd (.slice none 0 0) 0 (ccells (l.drop 0)) := HRD2.out none 0 (fun h => by omega) (fun _ => rfl)
          go_wp2_with (at_builtin; go_loud (refine append_row2 rfl _ _ 64 rfl w.heap.size 67 i0 _ 4 32 Try.underlying64 hi0 hz0 hz1 hz2 rfl (by decide) _ (0 + 1) (ccells (l.take 0 ++ [((px, py), f, d)])) rfl HO2.out (0) (ccells (l.drop 0)) _ rfl (R1) (by unfold maxLen; omega) (by omega) GW2.out.size ?_; intro o3 we hown hgr; have HO3 := Lib.hid hown; have GW3 := Lib.hid (grown_all HO2.out GW2.out hgr); clear hown hgr))
          go_ret
          refine ⟨o3, _, rfl, HP.out.2, HP.out.1, ?_, GW3.out⟩
          have e9 : ccells (l.take 0 ++ ((px, py), f, d) :: l.drop 0) = ccells (l.take 0 ++ [((px, py), f, d)]) ++ ccells (l.drop 0) := by rw [← ccells_append, List.append_assoc]; rfl
          have e8 : 0 + 1 + (0) = 0 + 1 := by omega
          rw [e9, ← e8]
          exact HO3.out
        · by_cases hkc2 : k = co
          · have hnk : n = k := by omega
            subst hkc2
            subst hnk
            have R1 : RowAt 4 wd (.slice (some ⟨g, 0, none⟩) 0 0) 0 (ccells (l.drop n)) := by
              have := HRD2.out (some ⟨g, 0, none⟩) 0 (fun h => by omega) (fun h => by cases h)
              rwa [Nat.sub_self] at this
            go_wp2_with (at_builtin; go_loud (refine append_row2 rfl _ _ 64 rfl w.heap.size 67 i0 _ 4 32 Try.underlying64 hi0 hz0 hz1 hz2 rfl (by decide) _ (n + 1) (ccells (l.take n ++ [((px, py), f, d)])) rfl HO2.out (0) (ccells (l.drop n)) _ rfl (R1) (by unfold maxLen; omega) (by omega) GW2.out.size ?_; intro o3 we hown hgr; have HO3 := Lib.hid hown; have GW3 := Lib.hid (grown_all HO2.out GW2.out hgr); clear hown hgr))
            go_ret
            refine ⟨o3, _, rfl, HP.out.2, HP.out.1, ?_, GW3.out⟩
            have e9 : ccells (l.take n ++ ((px, py), f, d) :: l.drop n) = ccells (l.take n ++ [((px, py), f, d)]) ++ ccells (l.drop n) := by rw [← ccells_append, List.append_assoc]; rfl
            have e8 : n + 1 + (0) = n + 1 := by omega
            rw [e9, ← e8]
            exact HO3.out
          · have hkz : (k : Int) ≤ (n : Int) := by omega
            have hkc3 : ¬ co = k := fun h => hkc2 h.symm
            go_wp2_with (at_builtin; go_loud (refine append_row2 rfl _ _ 64 rfl w.heap.size 67 i0 _ 4 32 Try.underlying64 hi0 hz0 hz1 hz2 rfl (by decide) _ (k + 1) (ccells (l.take k ++ [((px, py), f, d)])) rfl HO2.out (n - k) (ccells (l.drop k)) _ rfl (HRD2.out _ _ (fun h => ⟨g, rfl, rfl⟩) (fun h => by cases h)) (by unfold maxLen; omega) (by omega) GW2.out.size ?_; intro o3 we hown hgr; have HO3 := Lib.hid hown; have GW3 := Lib.hid (grown_all HO2.out GW2.out hgr); clear hown hgr))
            go_ret
            refine ⟨o3, _, rfl, HP.out.2, HP.out.1, ?_, GW3.out⟩
            have e9 : ccells (l.take k ++ ((px, py), f, d) :: l.drop k) = ccells (l.take k ++ [((px, py), f, d)]) ++ ccells (l.drop k) := by rw [← ccells_append, List.append_assoc]; rfl
            have e8 : k + 1 + (n - k) = n + 1 := by omega
            rw [e9, ← e8]
            exact HO3.out
end Go.Proofs.Ytlgplhanhnjeiaa
