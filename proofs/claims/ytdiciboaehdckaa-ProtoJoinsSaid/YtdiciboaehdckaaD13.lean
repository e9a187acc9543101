/-
  Layer 8: a field, as the document's; fields in the document's memory.
-/
import Derived.Test.YtdiciboaehdckaaD12
namespace Go.Proofs.Ytdiciboaehdckaa
open Go.RowKit Go.Tab Go.WideShapes

set_option maxHeartbeats 1000000 in
theorem of_any (f : Fld) (bv : Value) (w : World) (h : NumsAt .u8 w bv f.bs) : Calls Try.prog 19 #[fldV f bv] w (Ret (rfV f) w) := by
  obtain ⟨num, kind, fn, bs⟩ := f
  simp only at h
  have hcv := conv_nums (h.grows (((Grows.refl w).al (.cells #[.int .i64 num, .int .i64 kind, .int .u64 (fn : Int), bv] 41)).al fzr))
  obtain ⟨a, c, rfl⟩ := h.shape
  unfold fldV rfV
  simp only
  go_enter Try.func19, Try.ntmps19
  go_wp2
  exact bodyPost_ret (v := .agg #[.int .i64 num, .int .i64 kind, .int .u64 (fn : Int), .string (strN bs)]) (by simp [results, Try.results19, go_sem]) rfl ⟨rfl, ((Grows.refl w).al _).al _⟩

/-- A slice that reads as these fields of the document's. -/
def RFldsAt (w : World) (v : Value) (fs : List Fld) : Prop :=
  ((∃ a cap, v = .slice a 0 cap ∧ (a = none → cap = 0)) ∧ fs = []) ∨ ∃ b off cap, v = .slice (some ⟨b, off, none⟩) fs.length cap ∧ b < w.heap.size ∧ fs.length ≤ cap ∧
    ∀ i f, fs[i]? = some f → w.cell? ⟨b, off + i * 4, none⟩ = some (.int .i64 f.num) ∧ w.cell? ⟨b, off + i * 4 + 1, none⟩ = some (.int .i64 f.kind) ∧ w.cell? ⟨b, off + i * 4 + 2, none⟩ = some (.int .u64 (f.n : Int)) ∧ w.cell? ⟨b, off + i * 4 + 3, none⟩ = some (.string (strN f.bs))
theorem RFldsAt.grows {w w' : World} {v : Value} {fs : List Fld} (h : RFldsAt w v fs) (hg : Grows w w') : RFldsAt w' v fs := by
  rcases h with h | ⟨b, off, cap, hv, hb, hc, hf⟩
  · exact .inl h
  · refine .inr ⟨b, off, cap, hv, Nat.lt_of_lt_of_le hb hg.size, hc, fun i f hi => ?_⟩
    obtain ⟨h0, h1, h2, h3⟩ := hf i f hi
    refine ⟨?_, ?_, ?_, ?_⟩
    · rw [Below.cell hg (p := ⟨b, off + i * 4, none⟩) hb]; exact h0
    · rw [Below.cell hg (p := ⟨b, off + i * 4 + 1, none⟩) hb]; exact h1
    · rw [Below.cell hg (p := ⟨b, off + i * 4 + 2, none⟩) hb]; exact h2
    · rw [Below.cell hg (p := ⟨b, off + i * 4 + 3, none⟩) hb]; exact h3
theorem RFldsAt.shape {w : World} {v : Value} {fs : List Fld} (h : RFldsAt w v fs) : ∃ a cap, v = .slice a fs.length cap ∧ fs.length ≤ cap ∧ (a = none → cap = 0) := by
  rcases h with ⟨⟨a, c, hv, hac⟩, rfl⟩ | ⟨b, off, cap, hv, hb, hc, hf⟩
  · exact ⟨a, c, hv, Nat.zero_le _, hac⟩
  · exact ⟨_, cap, hv, hc, fun h => by cases h⟩
theorem RFldsAt.at_ {w : World} {a : Option Addr} {n c i : Nat} {fs : List Fld} {f : Fld} (h : RFldsAt w (.slice a n c) fs) (hi : fs[i]? = some f) :
    ∃ b off, a = some ⟨b, off, none⟩ ∧ b < w.heap.size ∧ w.cell? ⟨b, off + i * 4, none⟩ = some (.int .i64 f.num) ∧ w.cell? ⟨b, off + i * 4 + 1, none⟩ = some (.int .i64 f.kind) ∧ w.cell? ⟨b, off + i * 4 + 2, none⟩ = some (.int .u64 (f.n : Int)) ∧ w.cell? ⟨b, off + i * 4 + 3, none⟩ = some (.string (strN f.bs)) := by
  rcases h with ⟨_, rfl⟩ | ⟨b, off, cap, hv, hb, hc, hf⟩
  · simp at hi
  · injection hv with h1 _ _
    subst h1
    exact ⟨b, off, rfl, hb, hf i f hi⟩
/-- The cells of the document's fields. -/
def rcells (fs : List Fld) : List Value := fs.flatMap fun f => [.int .i64 f.num, .int .i64 f.kind, .int .u64 (f.n : Int), .string (strN f.bs)]
theorem rcells_len (fs : List Fld) : (rcells fs).length = fs.length * 4 := by
  induction fs with
  | nil => rfl
  | cons f fs ih => simp only [rcells, List.flatMap_cons, List.length_append, List.length_cons, List.length_nil] at ih ⊢; omega
theorem rcells_snoc (fs : List Fld) (f : Fld) : rcells (fs ++ [f]) = rcells fs ++ [.int .i64 f.num, .int .i64 f.kind, .int .u64 (f.n : Int), .string (strN f.bs)] := by simp [rcells]
theorem rcells_get (fs : List Fld) : ∀ (i : Nat) (f : Fld), fs[i]? = some f → (rcells fs)[i * 4]? = some (.int .i64 f.num) ∧ (rcells fs)[i * 4 + 1]? = some (.int .i64 f.kind) ∧ (rcells fs)[i * 4 + 2]? = some (.int .u64 (f.n : Int)) ∧ (rcells fs)[i * 4 + 3]? = some (.string (strN f.bs)) := by
  induction fs with
  | nil => intro i f h; simp at h
  | cons g fs ih =>
    intro i f h
    cases i with
    | zero => simp at h; subst h; exact ⟨rfl, rfl, rfl, rfl⟩
    | succ i =>
      simp at h
      obtain ⟨h0, h1, h2, h3⟩ := ih i f h
      have e : rcells (g :: fs) = [.int .i64 g.num, .int .i64 g.kind, .int .u64 (g.n : Int), .string (strN g.bs)] ++ rcells fs := rfl
      rw [e]
      refine ⟨?_, ?_, ?_, ?_⟩
      · rw [List.getElem?_append_right (by simp; omega)]; rw [show (i + 1) * 4 - [Value.int .i64 g.num, .int .i64 g.kind, .int .u64 (g.n : Int), .string (strN g.bs)].length = i * 4 by simp; omega]; exact h0
      · rw [List.getElem?_append_right (by simp; omega)]; rw [show (i + 1) * 4 + 1 - [Value.int .i64 g.num, .int .i64 g.kind, .int .u64 (g.n : Int), .string (strN g.bs)].length = i * 4 + 1 by simp; omega]; exact h1
      · rw [List.getElem?_append_right (by simp; omega)]; rw [show (i + 1) * 4 + 2 - [Value.int .i64 g.num, .int .i64 g.kind, .int .u64 (g.n : Int), .string (strN g.bs)].length = i * 4 + 2 by simp; omega]; exact h2
      · rw [List.getElem?_append_right (by simp; omega)]; rw [show (i + 1) * 4 + 3 - [Value.int .i64 g.num, .int .i64 g.kind, .int .u64 (g.n : Int), .string (strN g.bs)].length = i * 4 + 3 by simp; omega]; exact h3
/-- An owned row of the document's fields. -/
theorem own_rflds {w : World} {base : Nat} {T : TypeId} {v : Value} {n : Nat} {fs : List Fld} (h : w.ownsRow base T 4 v n (rcells fs)) (hn : n = fs.length) : RFldsAt w v fs := by
  subst hn
  have hc := h
  obtain ⟨_, ⟨rfl, h0⟩ | ⟨g, cap, cur, rfl, hb, hh, h1, h2, h3, h4⟩⟩ := h
  · have : fs = [] := List.eq_nil_of_length_eq_zero h0
    subst this
    exact .inl ⟨⟨none, 0, rfl, fun _ => rfl⟩, rfl⟩
  · refine .inr ⟨g, 0, cap, rfl, (Array.getElem?_eq_some_iff.1 hh).1, h1, fun i f hi => ?_⟩
    have key : ∀ j u, (rcells fs)[j]? = some u → w.cell? ⟨g, 0 + j, none⟩ = some u := fun j u hj => by
      have := hc.cells (g := g) rfl j u hj
      rw [Tab.add_at] at this; exact this
    obtain ⟨e0, e1, e2, e3⟩ := rcells_get fs i f hi
    have k1 := key _ _ e1
    have k2 := key _ _ e2
    have k3 := key _ _ e3
    exact ⟨key _ _ e0, k1, k2, k3⟩
theorem infoRF : (Try.prog.info? 45).map (fun i => (i.zero, i.size, i.bytes)) = some (some (.agg #[.int .i64 0, .int .i64 0, .int .u64 0, .string ⟨#[]⟩]), 4, 40) := by kernel_rfl
theorem infoF : (Try.prog.info? 41).map (fun i => (i.zero, i.size, i.bytes)) = some (some (.agg #[.int .i64 0, .int .i64 0, .int .u64 0, .slice none 0 0]), 4, 48) := by kernel_rfl
end Go.Proofs.Ytdiciboaehdckaa
