/-
  Layer 8: the law's own cut, of fields as they come in.
-/
import Derived.Test.YtdiciboaehdckaaD22
namespace Go.Proofs.Ytdiciboaehdckaa
open Go.RowKit Go.Tab Go.WideShapes

/-- A slice that reads as these fields, of whose bytes at most 50 are told. -/
def AFldsAt (w : World) (v : Value) (fs : List Fld) : Prop :=
  ((∃ a cap, v = .slice a 0 cap ∧ (a = none → cap = 0)) ∧ fs = []) ∨ ∃ b off cap, v = .slice (some ⟨b, off, none⟩) fs.length cap ∧ b < w.heap.size ∧ fs.length ≤ cap ∧
    ∀ i f, fs[i]? = some f → ∃ bv, w.cell? ⟨b, off + i * 4, none⟩ = some (.int .i64 f.num) ∧ w.cell? ⟨b, off + i * 4 + 1, none⟩ = some (.int .i64 f.kind) ∧ w.cell? ⟨b, off + i * 4 + 2, none⟩ = some (.int .u64 (f.n : Int)) ∧ w.cell? ⟨b, off + i * 4 + 3, none⟩ = some bv ∧
      ((bv = .slice none 0 0 ∧ f.bs = []) ∨ ∃ ad ln cv, bv = .slice (some ad) ln cv ∧ ln ≤ cv ∧ NumsAt .u8 w (.slice (some ad) (min ln 50) cv) f.bs)
theorem AFldsAt.grows {w w' : World} {v : Value} {fs : List Fld} (h : AFldsAt w v fs) (hg : Grows w w') : AFldsAt w' v fs := by
  rcases h with h | ⟨b, off, cap, hv, hb, hc, hf⟩
  · exact .inl h
  · refine .inr ⟨b, off, cap, hv, Nat.lt_of_lt_of_le hb hg.size, hc, fun i f hi => ?_⟩
    obtain ⟨bv, h0, h1, h2, h3, h4⟩ := hf i f hi
    refine ⟨bv, ?_, ?_, ?_, ?_, h4.imp id (fun ⟨ad, ln, cv, x, y, z⟩ => ⟨ad, ln, cv, x, y, z.grows hg⟩)⟩
    · rw [Below.cell hg (p := ⟨b, off + i * 4, none⟩) hb]; exact h0
    · rw [Below.cell hg (p := ⟨b, off + i * 4 + 1, none⟩) hb]; exact h1
    · rw [Below.cell hg (p := ⟨b, off + i * 4 + 2, none⟩) hb]; exact h2
    · rw [Below.cell hg (p := ⟨b, off + i * 4 + 3, none⟩) hb]; exact h3
theorem AFldsAt.shape {w : World} {v : Value} {fs : List Fld} (h : AFldsAt w v fs) : ∃ a cap, v = .slice a fs.length cap ∧ fs.length ≤ cap ∧ (a = none → cap = 0) := by
  rcases h with ⟨⟨a, c, hv, hac⟩, rfl⟩ | ⟨b, off, cap, hv, hb, hc, hf⟩
  · exact ⟨a, c, hv, Nat.zero_le _, hac⟩
  · exact ⟨_, cap, hv, hc, fun h => by cases h⟩
theorem AFldsAt.at_ {w : World} {a : Option Addr} {n c i : Nat} {fs : List Fld} {f : Fld} (h : AFldsAt w (.slice a n c) fs) (hi : fs[i]? = some f) :
    ∃ b off bv, a = some ⟨b, off, none⟩ ∧ b < w.heap.size ∧ w.cell? ⟨b, off + i * 4, none⟩ = some (.int .i64 f.num) ∧ w.cell? ⟨b, off + i * 4 + 1, none⟩ = some (.int .i64 f.kind) ∧ w.cell? ⟨b, off + i * 4 + 2, none⟩ = some (.int .u64 (f.n : Int)) ∧ w.cell? ⟨b, off + i * 4 + 3, none⟩ = some bv ∧
      ((bv = .slice none 0 0 ∧ f.bs = []) ∨ ∃ ad ln cv, bv = .slice (some ad) ln cv ∧ ln ≤ cv ∧ NumsAt .u8 w (.slice (some ad) (min ln 50) cv) f.bs) := by
  rcases h with ⟨_, rfl⟩ | ⟨b, off, cap, hv, hb, hc, hf⟩
  · simp at hi
  · injection hv with h1 _ _
    subst h1
    obtain ⟨bv, h⟩ := hf i f hi
    exact ⟨b, off, bv, rfl, hb, h⟩
theorem take_snoc {fs : List Fld} {k : Nat} {f : Fld} (h : fs[k]? = some f) : fs.take (k + 1) = fs.take k ++ [f] := by
  obtain ⟨hkl, rfl⟩ := List.getElem?_eq_some_iff.1 h
  exact List.take_succ_eq_append_getElem hkl

set_option maxRecDepth 100000 in
set_option maxHeartbeats 4000000 in
theorem acut_any (v : Value) (fs : List Fld) (w : World) (hp : AFldsAt w v fs) : Calls Try.prog 7 #[v] w (fun e w' => ∃ u, e = .returned u ∧ FldsAt w' u (fs.take 20) ∧ Grows w w') := by
  obtain ⟨i0, hi0, hz0, hz1, hz2⟩ := info_parts infoF
  obtain ⟨a, c, rfl, hnc, -⟩ := hp.shape
  have HP := Lib.hid hp
  obtain ⟨n, hn⟩ : ∃ n, n = fs.length := ⟨_, rfl⟩
  rw [← hn] at hnc HP ⊢
  have HN := Lib.hid hn
  clear hp hn
  go_enter Try.func7, Try.ntmps7
  go_wp2
  go_loopw [3, 4] (fun o' i wr => ∃ (k : Nat) (o : Value) (PS : List (Fld × Value)), k ≤ n ∧ k ≤ 20 ∧ o = o' ∧ i = .int .i64 (k : Int) ∧ Hid (PS.map (·.1) = fs.take k) ∧ Hid (wr.ownsRow w.heap.size 41 4 o PS.length (fcells PS)) ∧ Hid (∀ p ∈ PS, NumsAt .u8 w p.2 p.1.bs) ∧ Hid (Grows w wr)) (fun _ i _ => n - (intOf i).toNat)
  case atStart => exact ⟨0, _, [], Nat.zero_le _, by omega, rfl, rfl, Lib.hid rfl, Lib.hid (World.ownsRow_nil _ _ _ _), Lib.hid (fun p hp => by cases hp), Lib.hid (Grows.refl _)⟩
  case round =>
    obtain ⟨k, o, PS, hk, hk20, rfl, rfl, HPSM, HO, HB, HG⟩ := hrel
    have HPSL : Hid (PS.length ≤ 20) := Lib.hid (by have := congrArg List.length HPSM.out; simp only [List.length_map, List.length_take] at this; omega)
    by_cases hlt : k < n
    · by_cases h20 : k < 20
      · obtain ⟨f, hf⟩ : ∃ f, fs[k]? = some f := ⟨_, List.getElem?_eq_getElem (by rw [← HN.out]; exact hlt)⟩
        obtain ⟨ba, oa, bv, rfl, hba, b0, b1, b2, b3, hbs⟩ := HP.out.at_ hf
        have c0 := (Below.cell HG.out (p := ⟨ba, oa + k * 4, none⟩) hba).trans b0
        have c1 := (Below.cell HG.out (p := ⟨ba, oa + k * 4 + 1, none⟩) hba).trans b1
        have c2 := (Below.cell HG.out (p := ⟨ba, oa + k * 4 + 2, none⟩) hba).trans b2
        have c3 := (Below.cell HG.out (p := ⟨ba, oa + k * 4 + 3, none⟩) hba).trans b3
        obtain ⟨num, kind, fn, bs⟩ := f
        have HSN : Hid (fs.take (k + 1) = fs.take k ++ [⟨num, kind, fn, bs⟩]) := Lib.hid (take_snoc hf)
        simp only at c0 c1 c2 c3 hbs
        rcases hbs with ⟨rfl, rfl⟩ | ⟨ad, ln, cv, rfl, hlc, hnm⟩
        · have HBV : Hid (NumsAt .u8 w (.slice none 0 0) ([] : List Nat)) := Lib.hid (nums_nil w)
          obtain ⟨bs, hbs0⟩ : ∃ bs : List Nat, bs = [] := ⟨_, rfl⟩
          rw [← hbs0] at HSN HBV
          clear b0 b1 b2 b3 hf hbs0
          have HO1 := Lib.hid (ownsRow_later (ownsRow_later HO.out (Grows.alloc wr (.cells #[.int .i64 num, .int .i64 kind, .int .u64 (fn : Int), .slice none 0 0] 41))) (Grows.alloc _ (.cells #[.int .i64 num, .int .i64 kind, .int .u64 (fn : Int), .slice none 0 0] 41)))
          have HG1 := Lib.hid ((HG.out.al (.cells #[.int .i64 num, .int .i64 kind, .int .u64 (fn : Int), .slice none 0 0] 41)).al (.cells #[.int .i64 num, .int .i64 kind, .int .u64 (fn : Int), .slice none 0 0] 41))
          go_wp2_with (at_builtin; go_loud (refine append_row2 rfl _ _ 22 rfl w.heap.size 41 i0 _ 4 48 Try.underlying22 hi0 hz0 hz1 hz2 rfl (by decide) o (PS.length) (fcells PS) rfl HO1.out 1 [.int .i64 num, .int .i64 kind, .int .u64 (fn : Int), .slice none 0 0] _ rfl (row_four (heap_new _ _ _ (by simp only [World.size_alloc])) rfl rfl rfl rfl) (by unfold maxLen; have := HPSL.out; omega) (by have := HPSL.out; omega) HG1.out.size ?_; intro o2 w2 hown hgr; have HO2 := Lib.hid hown; have HG2 := Lib.hid (grown_all HO1.out HG1.out hgr); clear hown hgr HO1 HG1))
          exact ⟨⟨k + 1, _, PS ++ [(⟨num, kind, fn, bs⟩, .slice none 0 0)], by omega, by omega, rfl, by simp, Lib.hid (by rw [HSN.out, List.map_append, HPSM.out]; rfl), Lib.hid (by rw [fcells_snoc, List.length_append]; exact HO2.out), Lib.hid (fun p hp => (List.mem_append.1 hp).elim (HB.out p) (fun h => by rw [List.mem_singleton] at h; subst h; exact HBV.out)), HG2⟩, by simp only [intOf]; omega⟩
        · obtain ⟨m, hm⟩ : ∃ m, m = min ln 50 := ⟨_, rfl⟩
          have HM1 : Hid (m ≤ ln) := Lib.hid (by omega)
          have HM : Hid ((if (50 : Int) < (ln : Int) then (50 : Int) else (ln : Int)) = ((m : Nat) : Int)) := Lib.hid (by split <;> omega)
          rw [← hm] at hnm
          have HBV := Lib.hid hnm
          clear b0 b1 b2 b3 hf hnm hm
          have hm : (if (50 : Int) < (ln : Int) then (50 : Int) else (ln : Int)) = ((m : Nat) : Int) := HM.out
          have hm1 : m ≤ ln := HM1.out
          have HO1 := Lib.hid (ownsRow_later (ownsRow_later HO.out (Grows.alloc wr (.cells #[.int .i64 num, .int .i64 kind, .int .u64 (fn : Int), .slice (some ad) m cv] 41))) (Grows.alloc _ (.cells #[.int .i64 num, .int .i64 kind, .int .u64 (fn : Int), .slice (some ad) m cv] 41)))
          have HG1 := Lib.hid ((HG.out.al (.cells #[.int .i64 num, .int .i64 kind, .int .u64 (fn : Int), .slice (some ad) m cv] 41)).al (.cells #[.int .i64 num, .int .i64 kind, .int .u64 (fn : Int), .slice (some ad) m cv] 41))
          go_wp2_with (at_builtin; go_loud (refine append_row2 rfl _ _ 22 rfl w.heap.size 41 i0 _ 4 48 Try.underlying22 hi0 hz0 hz1 hz2 rfl (by decide) o (PS.length) (fcells PS) rfl HO1.out 1 [.int .i64 num, .int .i64 kind, .int .u64 (fn : Int), .slice (some ad) m cv] _ rfl (row_four (heap_new _ _ _ (by simp only [World.size_alloc])) rfl rfl rfl rfl) (by unfold maxLen; have := HPSL.out; omega) (by have := HPSL.out; omega) HG1.out.size ?_; intro o2 w2 hown hgr; have HO2 := Lib.hid hown; have HG2 := Lib.hid (grown_all HO1.out HG1.out hgr); clear hown hgr HO1 HG1))
          exact ⟨⟨k + 1, _, PS ++ [(⟨num, kind, fn, bs⟩, .slice (some ad) m cv)], by omega, by omega, rfl, by simp, Lib.hid (by rw [HSN.out, List.map_append, HPSM.out]; rfl), Lib.hid (by rw [fcells_snoc, List.length_append]; exact HO2.out), Lib.hid (fun p hp => (List.mem_append.1 hp).elim (HB.out p) (fun h => by rw [List.mem_singleton] at h; subst h; exact HBV.out)), HG2⟩, by simp only [intOf]; omega⟩
      · have HD : Hid (fs.take 20 = PS.map (·.1)) := Lib.hid (by rw [HPSM.out, show k = 20 by omega])
        have hk2 : k = 20 := by omega
        go_wp2
        go_ret
        refine ⟨o, rfl, ?_, HG.out⟩
        rw [HD.out]
        exact own_flds HO.out rfl (fun p hp => (HB.out p hp).grows HG.out)
    · have HD : Hid (fs.take 20 = PS.map (·.1)) := Lib.hid (by
        rw [HPSM.out]
        rw [List.take_of_length_le (by rw [← HN.out]; omega), List.take_of_length_le (by rw [← HN.out]; omega)])
      go_wp2
      go_ret
      refine ⟨o, rfl, ?_, HG.out⟩
      rw [HD.out]
      exact own_flds HO.out rfl (fun p hp => (HB.out p hp).grows HG.out)
end Go.Proofs.Ytdiciboaehdckaa
