/-
  Layer 8: fields in memory; what is written.
-/
import Derived.Test.YtdiciboaehdckaaD10
namespace Go.Proofs.Ytdiciboaehdckaa
open Go.RowKit Go.Tab

/-- What any field of Go's is. -/
structure Fld.Ok (f : Fld) : Prop where
  n : f.n < 18446744073709551616
  bs : ∀ x ∈ f.bs, x < 256
  len : f.bs.length ≤ 1000
  num1 : -9223372036854775808 ≤ f.num
  num2 : f.num ≤ 9223372036854775807
  kind1 : -9223372036854775808 ≤ f.kind
  kind2 : f.kind ≤ 9223372036854775807
/-- A slice that reads as these fields. -/
def FldsAt (w : World) (v : Value) (fs : List Fld) : Prop :=
  ((∃ a cap, v = .slice a 0 cap ∧ (a = none → cap = 0)) ∧ fs = []) ∨ ∃ b off cap, v = .slice (some ⟨b, off, none⟩) fs.length cap ∧ b < w.heap.size ∧ fs.length ≤ cap ∧
    ∀ i f, fs[i]? = some f → ∃ bv, w.cell? ⟨b, off + i * 4, none⟩ = some (.int .i64 f.num) ∧ w.cell? ⟨b, off + i * 4 + 1, none⟩ = some (.int .i64 f.kind) ∧ w.cell? ⟨b, off + i * 4 + 2, none⟩ = some (.int .u64 (f.n : Int)) ∧ w.cell? ⟨b, off + i * 4 + 3, none⟩ = some bv ∧ NumsAt .u8 w bv f.bs
theorem FldsAt.grows {w w' : World} {v : Value} {fs : List Fld} (h : FldsAt w v fs) (hg : Grows w w') : FldsAt w' v fs := by
  rcases h with h | ⟨b, off, cap, hv, hb, hc, hf⟩
  · exact .inl h
  · refine .inr ⟨b, off, cap, hv, Nat.lt_of_lt_of_le hb hg.size, hc, fun i f hi => ?_⟩
    obtain ⟨bv, h0, h1, h2, h3, h4⟩ := hf i f hi
    refine ⟨bv, ?_, ?_, ?_, ?_, h4.grows hg⟩
    · rw [Below.cell hg (p := ⟨b, off + i * 4, none⟩) hb]; exact h0
    · rw [Below.cell hg (p := ⟨b, off + i * 4 + 1, none⟩) hb]; exact h1
    · rw [Below.cell hg (p := ⟨b, off + i * 4 + 2, none⟩) hb]; exact h2
    · rw [Below.cell hg (p := ⟨b, off + i * 4 + 3, none⟩) hb]; exact h3
theorem FldsAt.shape {w : World} {v : Value} {fs : List Fld} (h : FldsAt w v fs) : ∃ a cap, v = .slice a fs.length cap ∧ fs.length ≤ cap ∧ (a = none → cap = 0) := by
  rcases h with ⟨⟨a, c, hv, hac⟩, rfl⟩ | ⟨b, off, cap, hv, hb, hc, hf⟩
  · exact ⟨a, c, hv, Nat.zero_le _, hac⟩
  · exact ⟨_, cap, hv, hc, fun h => by cases h⟩
theorem FldsAt.at_ {w : World} {a : Option Addr} {n c i : Nat} {fs : List Fld} {f : Fld} (h : FldsAt w (.slice a n c) fs) (hi : fs[i]? = some f) :
    ∃ b off bv, a = some ⟨b, off, none⟩ ∧ b < w.heap.size ∧ w.cell? ⟨b, off + i * 4, none⟩ = some (.int .i64 f.num) ∧ w.cell? ⟨b, off + i * 4 + 1, none⟩ = some (.int .i64 f.kind) ∧ w.cell? ⟨b, off + i * 4 + 2, none⟩ = some (.int .u64 (f.n : Int)) ∧ w.cell? ⟨b, off + i * 4 + 3, none⟩ = some bv ∧ NumsAt .u8 w bv f.bs := by
  rcases h with ⟨_, rfl⟩ | ⟨b, off, cap, hv, hb, hc, hf⟩
  · simp at hi
  · injection hv with h1 _ _
    subst h1
    obtain ⟨bv, h⟩ := hf i f hi
    exact ⟨b, off, bv, rfl, hb, h⟩
def okF (f : Fld) : Int := chkI f.num f.kind f.n f.bs.length
/-- The bytes of a field that may be told. -/
def wrB (f : Fld) : List Nat := enc (8 * f.num + f.kind).toNat ++
  (if f.kind = 0 then enc f.n else if f.kind = 1 then lowL f.n 8 else if f.kind = 5 then lowL f.n 4 else enc f.bs.length ++ f.bs)
def wrF (fs : List Fld) : List Nat × Int := match fs.find? (fun f => okF f != 0) with
  | some f => ([], okF f)
  | none => (fs.flatMap wrB, 0)
theorem wrF_bad {fs : List Fld} {k : Nat} {f : Fld} (h0 : ∀ i g, i < k → fs[i]? = some g → okF g = 0) (hk : fs[k]? = some f) (hf : ¬ okF f = 0) : wrF fs = ([], okF f) := by
  have : fs.find? (fun f => okF f != 0) = some f := by
    rw [List.find?_eq_some_iff_getElem]
    obtain ⟨hkl, hke⟩ := List.getElem?_eq_some_iff.1 hk
    refine ⟨by simpa using hf, k, hkl, hke, fun j hj => ?_⟩
    have := h0 j fs[j] hj (List.getElem?_eq_getElem (by omega))
    simpa using this
  unfold wrF
  rw [this]
theorem wrF_ok {fs : List Fld} (h0 : ∀ i g, i < fs.length → fs[i]? = some g → okF g = 0) : wrF fs = (fs.flatMap wrB, 0) := by
  have : fs.find? (fun f => okF f != 0) = none := by
    rw [List.find?_eq_none]
    intro f hf
    obtain ⟨i, hi, rfl⟩ := List.getElem_of_mem hf
    have := h0 i fs[i] hi (List.getElem?_eq_getElem hi)
    simpa using this
  unfold wrF
  rw [this]
theorem flat_snoc {fs : List Fld} {k : Nat} {f : Fld} (hk : fs[k]? = some f) : (fs.take (k + 1)).flatMap wrB = (fs.take k).flatMap wrB ++ wrB f := by
  obtain ⟨hkl, rfl⟩ := List.getElem?_eq_some_iff.1 hk
  rw [List.take_succ_eq_append_getElem hkl, List.flatMap_append]
  simp
theorem okF_zero {f : Fld} (h : okF f = 0) : 1 ≤ f.num ∧ f.num ≤ 536870911 ∧ ((f.kind = 0 ∧ f.bs = []) ∨ (f.kind = 1 ∧ f.bs = []) ∨ (f.kind = 2 ∧ f.n = 0) ∨ (f.kind = 5 ∧ f.bs = [] ∧ f.n ≤ 4294967295)) := by
  unfold okF chkI at h
  split at h
  · omega
  · split at h
    · omega
    · split at h
      · omega
      · split at h
        · omega
        · rename_i h1 h2 h3 h4
          have hb : f.kind ≠ 2 → f.bs = [] := fun hk => by
            have : ¬ 0 < (f.bs.length : Int) := fun hl => h3 (.inl ⟨hk, hl⟩)
            exact List.eq_nil_of_length_eq_zero (by omega)
          refine ⟨by omega, by omega, ?_⟩
          by_cases k2 : f.kind = 2
          · exact .inr (.inr (.inl ⟨k2, by omega⟩))
          · have := hb k2
            rcases Classical.not_not.1 h2 with k | k | k | k
            · exact .inl ⟨k, this⟩
            · exact .inr (.inl ⟨k, this⟩)
            · exact absurd k k2
            · exact .inr (.inr (.inr ⟨k, this, by omega⟩))
theorem wrB_len {f : Fld} (h : f.Ok) (h0 : okF f = 0) : (wrB f).length ≤ 1020 := by
  obtain ⟨a, b, hk⟩ := okF_zero h0
  have e1 := enc_len10 (n := (8 * f.num + f.kind).toNat) (by omega)
  have e2 := enc_len10 h.n
  have e3 := enc_len10 (n := f.bs.length) (by have := h.len; omega)
  have := h.len
  unfold wrB
  rw [List.length_append]
  split
  · omega
  · split
    · rw [lowL_len]; omega
    · split
      · rw [lowL_len]; omega
      · rw [List.length_append]; omega
theorem flat_len {fs : List Fld} (hok : ∀ f ∈ fs, f.Ok) : ∀ k, (∀ i g, i < k → fs[i]? = some g → okF g = 0) → ((fs.take k).flatMap wrB).length ≤ k * 1020
  | 0, _ => by simp
  | k + 1, h => by
    have ih := flat_len hok k (fun i g hi => h i g (by omega))
    cases hk : fs[k]? with
    | none =>
      have : fs.length ≤ k := by simpa using hk
      rw [List.take_of_length_le (by omega)]
      rw [List.take_of_length_le (by omega)] at ih
      exact Nat.le_trans ih (Nat.mul_le_mul_right _ (Nat.le_succ k))
    | some f =>
      rw [flat_snoc hk, List.length_append]
      have := wrB_len (hok f (List.mem_of_getElem? hk)) (h k f (by omega) hk)
      rw [Nat.succ_mul]
      exact Nat.add_le_add ih this
theorem nums_row {w : World} {v : Value} {l : List Nat} (h : NumsAt .u8 w v l) : RowAt 1 w v l.length (l.map u8v) := by
  obtain ⟨hl, ⟨⟨a, c, hv, hac⟩, rfl⟩ | ⟨b, off, cap, hv, hb, hc, hcl⟩⟩ := h
  · exact ⟨rfl, (fun u hu => by cases hu), .inl ⟨rfl, a, c, hv, hac⟩⟩
  · refine ⟨by simp, nums_one l, .inr ⟨b, off, cap, hv, hb, fun j u hj => ?_⟩⟩
    rw [List.getElem?_map] at hj
    cases hlj : l[j]? with
    | none => rw [hlj] at hj; cases hj
    | some y =>
      rw [hlj] at hj
      cases hj
      rw [hcl j (List.getElem?_eq_some_iff.1 hlj).1]
      simp [List.getD, hlj]
theorem bytes_oneI (v : Nat) (x : Int) (w : World) (h : w.heap[v]? = some (.cells #[.int .u64 x] 39 (0, 0))) (h0 : 0 ≤ x) (hx : x < 18446744073709551616) :
    Calls Try.prog 23 #[.slice (some ⟨v, 0, none⟩) 1 1] w (fun e w' => ∃ u, e = .returned u ∧ NumsAt .u8 w' u (enc x.toNat) ∧ Grows w w') := by
  have hxx : ((x.toNat : Nat) : Int) = x := Int.toNat_of_nonneg h0
  exact bytes_one v x.toNat w (by rw [hxx]; exact h) (by omega)
theorem grown_block {w w' : World} {T1 T2 : TypeId} {base s n b : Nat} {v : Value} {xs : List Value} {cs : Array Value} (ho : w.ownsRow base T1 s v n xs) (hb : w.heap[b]? = some (.cells cs T2 (0, 0))) (hT : T1 ≠ T2) (hg : w.grownBy w' v.ownBlock) : w'.heap[b]? = some (.cells cs T2 (0, 0)) := by
  rw [hg.block b (Array.getElem?_eq_some_iff.1 hb).1 ?_]
  · exact hb
  · intro he
    obtain ⟨_, ⟨rfl, _⟩ | ⟨g1, cap1, cur1, rfl, hb1, hh1, _⟩⟩ := ho
    · cases he
    · cases he
      rw [hh1] at hb
      injection hb with hb
      injection hb with _ hb
      exact hT hb
theorem grown_all {W w w' : World} {T : TypeId} {s n : Nat} {v : Value} {xs : List Value} (ho : w.ownsRow W.heap.size T s v n xs) (hW : Grows W w) (hg : w.grownBy w' v.ownBlock) : Grows W w' :=
  Below.grown hW hg hW.size (fun k hk => (ho.lt k hk).1)
/-- The call hands back bytes and an error. -/
def RetWr (q : List Nat × Int) (w : World) (e : Ending) (w' : World) : Prop := ∃ u, e = .returned (.tuple #[u, .int .i64 q.2]) ∧ NumsAt .u8 w' u q.1 ∧ Grows w w'
end Go.Proofs.Ytdiciboaehdckaa
