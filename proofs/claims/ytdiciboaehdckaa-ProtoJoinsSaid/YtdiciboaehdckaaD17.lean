/-
  Layer 8: the law's own cut.
-/
import Derived.Test.YtdiciboaehdckaaD16
namespace Go.Proofs.Ytdiciboaehdckaa
open Go.RowKit Go.Tab Go.WideShapes

theorem cutL_snoc {fs : List Fld} {k : Nat} {f : Fld} (h : fs[k]? = some f) : (fs.take (k + 1)).map cutF = (fs.take k).map cutF ++ [cutF f] := by
  obtain ⟨hkl, rfl⟩ := List.getElem?_eq_some_iff.1 h
  rw [List.take_succ_eq_append_getElem hkl, List.map_append]
  rfl
theorem nums_two {w : World} {v : Value} {l : List Nat} (h : NumsAt .u8 w v l) : (v = .slice none 0 0 ∧ l = []) ∨ ∃ ad cv, v = .slice (some ad) l.length cv ∧ l.length ≤ cv := by
  obtain ⟨_, ⟨⟨a, c, rfl, hac⟩, rfl⟩ | ⟨b, off, cap, rfl, hb, hc, _⟩⟩ := h
  · cases a with
    | none => exact .inl ⟨by rw [hac rfl], rfl⟩
    | some ad => exact .inr ⟨ad, c, rfl, Nat.zero_le _⟩
  · exact .inr ⟨_, cap, rfl, hc⟩

set_option maxRecDepth 100000 in
set_option maxHeartbeats 4000000 in
theorem cut_any (v : Value) (fs : List Fld) (w : World) (hp : FldsAt w v fs) : Calls Try.prog 7 #[v] w (fun e w' => ∃ u, e = .returned u ∧ FldsAt w' u (cutL fs) ∧ Grows w w') := by
  obtain ⟨i0, hi0, hz0, hz1, hz2⟩ := info_parts infoF
  obtain ⟨a, c, rfl, hnc, -⟩ := hp.shape
  have HP := Lib.hid hp
  obtain ⟨n, hn⟩ : ∃ n, n = fs.length := ⟨_, rfl⟩
  rw [← hn] at hnc HP ⊢
  have HN := Lib.hid hn
  clear hp hn
  go_enter Try.func7, Try.ntmps7
  go_wp2
  go_loopw [3, 4] (fun o' i wr => ∃ (k : Nat) (o : Value) (PS : List (Fld × Value)), k ≤ n ∧ k ≤ 20 ∧ o = o' ∧ i = .int .i64 (k : Int) ∧ Hid (PS.map (·.1) = (fs.take k).map cutF) ∧ Hid (wr.ownsRow w.heap.size 41 4 o PS.length (fcells PS)) ∧ Hid (∀ p ∈ PS, NumsAt .u8 w p.2 p.1.bs) ∧ Hid (Grows w wr)) (fun _ i _ => n - (intOf i).toNat)
  case atStart => exact ⟨0, _, [], Nat.zero_le _, by omega, rfl, rfl, Lib.hid rfl, Lib.hid (World.ownsRow_nil _ _ _ _), Lib.hid (fun p hp => by cases hp), Lib.hid (Grows.refl _)⟩
  case round =>
    obtain ⟨k, o, PS, hk, hk20, rfl, rfl, HPSM, HO, HB, HG⟩ := hrel
    have HPSL : Hid (PS.length ≤ 20) := Lib.hid (by have := congrArg List.length HPSM.out; simp only [List.length_map, List.length_take] at this; omega)
    by_cases hlt : k < n
    · by_cases h20 : k < 20
      · obtain ⟨f, hf⟩ : ∃ f, fs[k]? = some f := ⟨_, List.getElem?_eq_getElem (by rw [← HN.out]; exact hlt)⟩
        obtain ⟨ba, oa, bv, rfl, hba, b0, b1, b2, b3, hbs⟩ := HP.out.at_ hf
        have c0 := (Below.cell HG.out (p := ⟨ba, oa + k * 4, none⟩) hba).trans b0
        have c1 := (Below.cell HG.out (p := ⟨ba, oa + k * 4 + 1, none⟩) hba).trans b1
        have c2 := (Below.cell HG.out (p := ⟨ba, oa + k * 4 + 2, none⟩) hba).trans b2
        have c3 := (Below.cell HG.out (p := ⟨ba, oa + k * 4 + 3, none⟩) hba).trans b3
        obtain ⟨num, kind, fn, bs⟩ := f
        have HSN : Hid ((fs.take (k + 1)).map cutF = (fs.take k).map cutF ++ [⟨num, kind, fn, bs.take 50⟩]) := Lib.hid (cutL_snoc hf)
        simp only at c0 c1 c2 c3 hbs
        rcases nums_two hbs with ⟨rfl, rfl⟩ | ⟨ad, cv, rfl, hlc⟩
        · have HBV : Hid (NumsAt .u8 w (.slice none 0 0) (([] : List Nat).take 50)) := Lib.hid (by rw [List.take_nil]; exact nums_nil w)
          obtain ⟨bs, hbs0⟩ : ∃ bs : List Nat, bs = [] := ⟨_, rfl⟩
          rw [← hbs0] at HSN HBV
          clear b0 b1 b2 b3 hf hbs0 hbs
          have HO1 := Lib.hid (ownsRow_later (ownsRow_later HO.out (Grows.alloc wr (.cells #[.int .i64 num, .int .i64 kind, .int .u64 (fn : Int), .slice none 0 0] 41))) (Grows.alloc _ (.cells #[.int .i64 num, .int .i64 kind, .int .u64 (fn : Int), .slice none 0 0] 41)))
          have HG1 := Lib.hid ((HG.out.al (.cells #[.int .i64 num, .int .i64 kind, .int .u64 (fn : Int), .slice none 0 0] 41)).al (.cells #[.int .i64 num, .int .i64 kind, .int .u64 (fn : Int), .slice none 0 0] 41))
          go_wp2_with (at_builtin; go_loud (refine append_row2 rfl _ _ 22 rfl w.heap.size 41 i0 _ 4 48 Try.underlying22 hi0 hz0 hz1 hz2 rfl (by decide) o (PS.length) (fcells PS) rfl HO1.out 1 [.int .i64 num, .int .i64 kind, .int .u64 (fn : Int), .slice none 0 0] _ rfl (row_four (heap_new _ _ _ (by simp only [World.size_alloc])) rfl rfl rfl rfl) (by unfold maxLen; have := HPSL.out; omega) (by have := HPSL.out; omega) HG1.out.size ?_; intro o2 w2 hown hgr; have HO2 := Lib.hid hown; have HG2 := Lib.hid (grown_all HO1.out HG1.out hgr); clear hown hgr HO1 HG1))
          exact ⟨⟨k + 1, _, PS ++ [(⟨num, kind, fn, bs.take 50⟩, .slice none 0 0)], by omega, by omega, rfl, by simp, Lib.hid (by rw [HSN.out, List.map_append, HPSM.out]; rfl), Lib.hid (by rw [fcells_snoc, List.length_append]; exact HO2.out), Lib.hid (fun p hp => (List.mem_append.1 hp).elim (HB.out p) (fun h => by rw [List.mem_singleton] at h; subst h; exact HBV.out)), HG2⟩, by simp only [intOf]; omega⟩
        · have HBV0 : NumsAt .u8 w (.slice (some ad) (min bs.length 50) cv) (bs.take 50) := by
            rw [Nat.min_comm, ← List.length_take]
            have := hbs.take (j := (bs.take 50).length) (by rw [List.length_take]; omega)
            rw [List.length_take] at this ⊢
            by_cases h50 : bs.length ≤ 50
            · rw [List.take_of_length_le h50]
              rw [Nat.min_eq_right h50] at this ⊢
              rw [List.take_length] at this
              exact this
            · rw [Nat.min_eq_left (by omega)] at this ⊢
              exact this
          obtain ⟨m, hm⟩ : ∃ m, m = min bs.length 50 := ⟨_, rfl⟩
          have HM1 : Hid (m ≤ bs.length) := Lib.hid (by omega)
          have HM : Hid ((if (50 : Int) < (bs.length : Int) then (50 : Int) else (bs.length : Int)) = ((m : Nat) : Int)) := Lib.hid (by split <;> omega)
          rw [← hm] at HBV0
          have HBV := Lib.hid HBV0
          obtain ⟨ln, hln⟩ : ∃ ln, ln = bs.length := ⟨_, rfl⟩
          rw [← hln] at HM HM1 hlc c3
          clear b0 b1 b2 b3 hf hbs hm HBV0 hln
          have hm : (if (50 : Int) < (ln : Int) then (50 : Int) else (ln : Int)) = ((m : Nat) : Int) := HM.out
          have hm1 : m ≤ ln := HM1.out
          have HO1 := Lib.hid (ownsRow_later (ownsRow_later HO.out (Grows.alloc wr (.cells #[.int .i64 num, .int .i64 kind, .int .u64 (fn : Int), .slice (some ad) m cv] 41))) (Grows.alloc _ (.cells #[.int .i64 num, .int .i64 kind, .int .u64 (fn : Int), .slice (some ad) m cv] 41)))
          have HG1 := Lib.hid ((HG.out.al (.cells #[.int .i64 num, .int .i64 kind, .int .u64 (fn : Int), .slice (some ad) m cv] 41)).al (.cells #[.int .i64 num, .int .i64 kind, .int .u64 (fn : Int), .slice (some ad) m cv] 41))
          go_wp2_with (at_builtin; go_loud (refine append_row2 rfl _ _ 22 rfl w.heap.size 41 i0 _ 4 48 Try.underlying22 hi0 hz0 hz1 hz2 rfl (by decide) o (PS.length) (fcells PS) rfl HO1.out 1 [.int .i64 num, .int .i64 kind, .int .u64 (fn : Int), .slice (some ad) m cv] _ rfl (row_four (heap_new _ _ _ (by simp only [World.size_alloc])) rfl rfl rfl rfl) (by unfold maxLen; have := HPSL.out; omega) (by have := HPSL.out; omega) HG1.out.size ?_; intro o2 w2 hown hgr; have HO2 := Lib.hid hown; have HG2 := Lib.hid (grown_all HO1.out HG1.out hgr); clear hown hgr HO1 HG1))
          exact ⟨⟨k + 1, _, PS ++ [(⟨num, kind, fn, bs.take 50⟩, .slice (some ad) m cv)], by omega, by omega, rfl, by simp, Lib.hid (by rw [HSN.out, List.map_append, HPSM.out]; rfl), Lib.hid (by rw [fcells_snoc, List.length_append]; exact HO2.out), Lib.hid (fun p hp => (List.mem_append.1 hp).elim (HB.out p) (fun h => by rw [List.mem_singleton] at h; subst h; exact HBV.out)), HG2⟩, by simp only [intOf]; omega⟩
      · have HD : Hid (cutL fs = PS.map (·.1)) := Lib.hid (by rw [HPSM.out, show k = 20 by omega]; rfl)
        have hk2 : k = 20 := by omega
        go_wp2
        go_ret
        refine ⟨o, rfl, ?_, HG.out⟩
        rw [HD.out]
        exact own_flds HO.out rfl (fun p hp => (HB.out p hp).grows HG.out)
    · have HD : Hid (cutL fs = PS.map (·.1)) := Lib.hid (by
        rw [HPSM.out]
        unfold cutL
        rw [List.take_of_length_le (by rw [← HN.out]; omega), List.take_of_length_le (by rw [← HN.out]; omega)])
      go_wp2
      go_ret
      refine ⟨o, rfl, ?_, HG.out⟩
      rw [HD.out]
      exact own_flds HO.out rfl (fun p hp => (HB.out p hp).grows HG.out)
end Go.Proofs.Ytdiciboaehdckaa
