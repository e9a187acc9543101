/-
  Layer 8: the law's own helpers: cut, ofs, same.
-/
import Derived.Test.YtdiciboaehdckaaD15
import Derived.Test.YtdiciboaehdckaaD14
namespace Go.Proofs.Ytdiciboaehdckaa
open Go.RowKit Go.Tab Go.WideShapes

/-- Fields with the values of their bytes, as cells. -/
def fcells (ps : List (Fld × Value)) : List Value := ps.flatMap fun p => [.int .i64 p.1.num, .int .i64 p.1.kind, .int .u64 (p.1.n : Int), p.2]
theorem fcells_snoc (ps : List (Fld × Value)) (p : Fld × Value) : fcells (ps ++ [p]) = fcells ps ++ [.int .i64 p.1.num, .int .i64 p.1.kind, .int .u64 (p.1.n : Int), p.2] := by simp [fcells]
theorem fcells_get (ps : List (Fld × Value)) : ∀ (i : Nat) (p : Fld × Value), ps[i]? = some p → (fcells ps)[i * 4]? = some (.int .i64 p.1.num) ∧ (fcells ps)[i * 4 + 1]? = some (.int .i64 p.1.kind) ∧ (fcells ps)[i * 4 + 2]? = some (.int .u64 (p.1.n : Int)) ∧ (fcells ps)[i * 4 + 3]? = some p.2 := by
  induction ps with
  | nil => intro i f h; simp at h
  | cons g fs ih =>
    intro i f h
    cases i with
    | zero => simp at h; subst h; exact ⟨rfl, rfl, rfl, rfl⟩
    | succ i =>
      simp at h
      obtain ⟨h0, h1, h2, h3⟩ := ih i f h
      have e : fcells (g :: fs) = [.int .i64 g.1.num, .int .i64 g.1.kind, .int .u64 (g.1.n : Int), g.2] ++ fcells fs := rfl
      rw [e]
      refine ⟨?_, ?_, ?_, ?_⟩
      · rw [List.getElem?_append_right (by simp; omega)]; rw [show (i + 1) * 4 - [Value.int .i64 g.1.num, .int .i64 g.1.kind, .int .u64 (g.1.n : Int), g.2].length = i * 4 by simp; omega]; exact h0
      · rw [List.getElem?_append_right (by simp; omega)]; rw [show (i + 1) * 4 + 1 - [Value.int .i64 g.1.num, .int .i64 g.1.kind, .int .u64 (g.1.n : Int), g.2].length = i * 4 + 1 by simp; omega]; exact h1
      · rw [List.getElem?_append_right (by simp; omega)]; rw [show (i + 1) * 4 + 2 - [Value.int .i64 g.1.num, .int .i64 g.1.kind, .int .u64 (g.1.n : Int), g.2].length = i * 4 + 2 by simp; omega]; exact h2
      · rw [List.getElem?_append_right (by simp; omega)]; rw [show (i + 1) * 4 + 3 - [Value.int .i64 g.1.num, .int .i64 g.1.kind, .int .u64 (g.1.n : Int), g.2].length = i * 4 + 3 by simp; omega]; exact h3
/-- An owned row of fields. -/
theorem own_flds {w : World} {base : Nat} {T : TypeId} {v : Value} {n : Nat} {ps : List (Fld × Value)} (h : w.ownsRow base T 4 v n (fcells ps)) (hn : n = ps.length) (hb : ∀ p ∈ ps, NumsAt .u8 w p.2 p.1.bs) : FldsAt w v (ps.map (·.1)) := by
  subst hn
  have hc := h
  obtain ⟨_, ⟨rfl, h0⟩ | ⟨g, cap, cur, rfl, hb', hh, h1, h2, h3, h4⟩⟩ := h
  · have : ps = [] := List.eq_nil_of_length_eq_zero h0
    subst this
    exact .inl ⟨⟨none, 0, rfl, fun _ => rfl⟩, rfl⟩
  · refine .inr ⟨g, 0, cap, by rw [List.length_map], (Array.getElem?_eq_some_iff.1 hh).1, by rw [List.length_map]; exact h1, fun i f hi => ?_⟩
    rw [List.getElem?_map] at hi
    obtain ⟨p, hp, rfl⟩ := Option.map_eq_some_iff.1 hi
    have key : ∀ j u, (fcells ps)[j]? = some u → w.cell? ⟨g, 0 + j, none⟩ = some u := fun j u hj => by
      have := hc.cells (g := g) rfl j u hj
      rw [Tab.add_at] at this; exact this
    obtain ⟨e0, e1, e2, e3⟩ := fcells_get ps i p hp
    have k1 := key _ _ e1
    have k2 := key _ _ e2
    have k3 := key _ _ e3
    exact ⟨p.2, key _ _ e0, k1, k2, k3, hb p (List.mem_of_getElem? hp)⟩

def cutF (f : Fld) : Fld := ⟨f.num, f.kind, f.n, f.bs.take 50⟩
def cutL (fs : List Fld) : List Fld := (fs.take 20).map cutF

set_option maxRecDepth 100000 in
set_option maxHeartbeats 4000000 in
theorem lofs_any (v : Value) (fs : List Fld) (w : World) (hp : FldsAt w v fs) (hl : fs.length ≤ 1000) : Calls Try.prog 10 #[v] w (fun e w' => ∃ u, e = .returned u ∧ RFldsAt w' u fs ∧ Grows w w') := by
  obtain ⟨i0, hi0, hz0, hz1, hz2⟩ := info_parts infoRF
  obtain ⟨a, c, rfl, hnc, -⟩ := hp.shape
  have HP := Lib.hid hp
  obtain ⟨n, hn⟩ : ∃ n, n = fs.length := ⟨_, rfl⟩
  rw [← hn] at hl hnc HP ⊢
  have HN := Lib.hid hn
  clear hp hn
  go_enter Try.func10, Try.ntmps10
  go_wp2
  go_loopw [3, 4] (fun o' i wr => ∃ (k : Nat) (o : Value), k ≤ n ∧ o = o' ∧ i = .int .i64 (k : Int) ∧ Hid (wr.ownsRow w.heap.size 45 4 o (fs.take k).length (rcells (fs.take k))) ∧ Hid (Grows w wr)) (fun _ i _ => n - (intOf i).toNat)
  case atStart => exact ⟨0, _, Nat.zero_le _, rfl, rfl, Lib.hid (World.ownsRow_nil _ _ _ _), Lib.hid (Grows.refl _)⟩
  case round =>
    obtain ⟨k, o, hk, rfl, rfl, HO, HG⟩ := hrel
    by_cases hlt : k < n
    · obtain ⟨f, hf⟩ : ∃ f, fs[k]? = some f := ⟨_, List.getElem?_eq_getElem (by rw [← HN.out]; exact hlt)⟩
      obtain ⟨ba, oa, bv, rfl, hba, c0, c1, c2, c3, hbs⟩ := (HP.out.grows HG.out).at_ hf
      have HSN : Hid (fs.take (k + 1) = fs.take k ++ [f]) := Lib.hid (by
        obtain ⟨hkl, rfl⟩ := List.getElem?_eq_some_iff.1 hf
        exact List.take_succ_eq_append_getElem hkl)
      have HL : Hid ((fs.take k).length ≤ 1000) := Lib.hid (by rw [List.length_take]; omega)
      generalize fs.take k = A at HO HSN HL
      have HOF := Lib.hid (of_any f bv wr hbs)
      obtain ⟨num, kind, fn, bs⟩ := f
      unfold fldV rfV at HOF
      simp only at c0 c1 c2 c3 HOF
      clear hbs hf
      go_wp2_with fail
      refine HOF.out.mono ?_
      rintro _ w1 ⟨rfl, hg⟩
      have HO1 := Lib.hid (ownsRow_later (ownsRow_later HO.out hg) (Grows.alloc w1 (.cells #[.int .i64 num, .int .i64 kind, .int .u64 (fn : Int), .string (strN bs)] 45)))
      have HG1 := Lib.hid ((HG.out.trans hg).al (.cells #[.int .i64 num, .int .i64 kind, .int .u64 (fn : Int), .string (strN bs)] 45))
      clear hg HO HG
      go_wp2_with (at_builtin; go_loud (refine append_row2 rfl _ _ 30 rfl w.heap.size 45 i0 _ 4 40 Try.underlying30 hi0 hz0 hz1 hz2 rfl (by decide) o A.length _ rfl HO1.out 1 _ _ rfl (row_four (heap_new _ _ _ rfl) rfl rfl rfl rfl) (by have := HL.out; unfold maxLen; omega) (by have := HL.out; omega) HG1.out.size ?_; intro o2 w2 hown hgr; have HO2 := Lib.hid hown; have HG2 := Lib.hid (grown_all HO1.out HG1.out hgr); clear hown hgr HO1 HG1))
      exact ⟨⟨k + 1, _, by omega, rfl, by simp, Lib.hid (by rw [HSN.out, rcells_snoc, List.length_append]; exact HO2.out), HG2⟩, by simp only [intOf]; omega⟩
    · obtain rfl : k = n := by omega
      go_wp2
      go_ret
      have h := HO.out
      rw [List.take_of_length_le (by rw [HN.out]; exact Nat.le_refl _)] at h
      exact ⟨o, rfl, own_rflds h rfl, HG.out⟩
end Go.Proofs.Ytdiciboaehdckaa
