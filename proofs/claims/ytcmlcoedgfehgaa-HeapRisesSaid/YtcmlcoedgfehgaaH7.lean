/-
  Layer 5: slices of entries; how many there are; entries pushed.
-/
import Derived.Test.YtcmlcoedgfehgaaH6
import Derived.Laws.AppendOwn
namespace Go.Proofs.Ytcmlcoedgfehgaa
open Go.RowKit Go.Tab Go.WideShapes

/-- A slice that reads as these entries. -/
def EntsAt (w : World) (v : Value) (l : List Ent3) : Prop :=
  l.length ≤ 1000000000 ∧ (((∃ a cap, v = .slice a 0 cap ∧ (a = none → cap = 0)) ∧ l = []) ∨ ∃ b off cap, v = .slice (some ⟨b, off, none⟩) l.length cap ∧ b < w.heap.size ∧ l.length ≤ cap ∧
    ∀ i, i < l.length → w.cell? ⟨b, off + i * 3, none⟩ = some (.int .i64 (l.getD i e0).1) ∧ w.cell? ⟨b, off + i * 3 + 1, none⟩ = some (.int .i64 (l.getD i e0).2.1) ∧ w.cell? ⟨b, off + i * 3 + 2, none⟩ = some (.int .i64 (l.getD i e0).2.2))
theorem EntsAt.keep {w w' : World} {v : Value} {l : List Ent3} (h : EntsAt w v l) (hs : w.heap.size ≤ w'.heap.size) (hk : ∀ b, v.ownBlock = some b → b < w.heap.size → w'.heap[b]? = w.heap[b]?) : EntsAt w' v l := by
  obtain ⟨hl, h | ⟨b, off, cap, hv, hb, hcp, hc⟩⟩ := h
  · exact ⟨hl, .inl h⟩
  · refine ⟨hl, .inr ⟨b, off, cap, hv, Nat.lt_of_lt_of_le hb hs, hcp, fun i hi => ?_⟩⟩
    have := hk b (by rw [hv]; rfl) hb
    simp only [World.cell?, this] at hc ⊢
    exact hc i hi
theorem EntsAt.grows {w w' : World} {v : Value} {l : List Ent3} (h : EntsAt w v l) (hg : Grows w w') : EntsAt w' v l := h.keep hg.size fun b _ hb => Below.block hg b hb
/-- A slice that is told apart from a heap. -/
def Far (u : Value) (M : List Ent3) (hb : Nat) (v : Value) : Prop := M = [] ∨ ∀ b, u.ownBlock = some b → b ≠ hb ∧ v.ownBlock ≠ some b
theorem EntsAt.step {w w' : World} {hb : Nat} {v v' u : Value} {l : List Ent3} (h : EntsAt w u l) (hs : HStep w w' hb v v') (hf : Far u l hb v) : EntsAt w' u l := by
  rcases hf with rfl | hf
  · obtain ⟨hl, h | ⟨b, off, cap, hv, hb, hcp, hc⟩⟩ := h
    · exact ⟨hl, .inl h⟩
    · exact ⟨hl, .inr ⟨b, off, cap, hv, Nat.lt_of_lt_of_le hb hs.keep.size, hcp, fun i hi => by cases hi⟩⟩
  · exact h.keep hs.keep.size fun b hb hlt => hs.keep.block b hlt (hf b hb).1 (hf b hb).2
theorem EntsAt.far {w : World} {hb : Nat} {v u : Value} {l : List Ent3} (h : EntsAt w u l) (hf : ∀ b, b < w.heap.size → u.ownBlock = some b → b ≠ hb ∧ v.ownBlock ≠ some b) : Far u l hb v := by
  obtain ⟨hl, h | ⟨b, off, cap, hv, hb, hcp, hc⟩⟩ := h
  · exact .inl h.2
  · exact .inr fun b' hb' => hf b' (by rw [hv] at hb'; cases hb'; exact hb) hb'
theorem EntsAt.at_ {w : World} {a : Option Addr} {n cap i : Nat} {l : List Ent3} (h : EntsAt w (.slice a n cap) l) (hi : i < l.length) :
    ∃ b off, a = some ⟨b, off, none⟩ ∧ b < w.heap.size ∧ w.cell? ⟨b, off + i * 3, none⟩ = some (.int .i64 (l.getD i e0).1) ∧ w.cell? ⟨b, off + i * 3 + 1, none⟩ = some (.int .i64 (l.getD i e0).2.1) ∧ w.cell? ⟨b, off + i * 3 + 2, none⟩ = some (.int .i64 (l.getD i e0).2.2) := by
  obtain ⟨_, ⟨_, rfl⟩ | ⟨b, off, cap', hv, hb, _, hc⟩⟩ := h
  · cases hi
  · cases hv; exact ⟨b, off, rfl, hb, hc i hi⟩
theorem EntsAt.at_cell {w : World} {b off n cap i : Nat} {l : List Ent3} (h : EntsAt w (.slice (some ⟨b, off, none⟩) n cap) l) (hi : i < l.length) :
    w.cell? ⟨b, off + i * 3, none⟩ = some (.int .i64 (l.getD i e0).1) ∧ w.cell? ⟨b, off + i * 3 + 1, none⟩ = some (.int .i64 (l.getD i e0).2.1) ∧ w.cell? ⟨b, off + i * 3 + 2, none⟩ = some (.int .i64 (l.getD i e0).2.2) := by
  obtain ⟨b', off', h1, _, h2⟩ := h.at_ hi
  cases h1; exact h2
theorem EntsAt.shape {w : World} {v : Value} {l : List Ent3} (h : EntsAt w v l) : ∃ a cap, v = .slice a l.length cap ∧ l.length ≤ cap ∧ (a = none → cap = 0) := by
  obtain ⟨_, ⟨⟨_, _, h, hz⟩, rfl⟩ | ⟨b, off, cap, hv, _, hc, _⟩⟩ := h
  · exact ⟨_, _, h, Nat.zero_le _, hz⟩
  · exact ⟨_, _, hv, hc, fun h => by cases h⟩
theorem EntsAt.take {w : World} {a : Option Addr} {n cap j : Nat} {l : List Ent3} (h : EntsAt w (.slice a n cap) l) (hj : j ≤ n) : EntsAt w (.slice a j cap) (l.take j) := by
  obtain ⟨hl, ⟨⟨_, _, h, hz⟩, rfl⟩ | ⟨b', off', cap', hv, hb, hc, hi⟩⟩ := h
  · cases h
    have : j = 0 := by omega
    subst this
    exact ⟨Nat.zero_le _, .inl ⟨⟨_, _, rfl, hz⟩, rfl⟩⟩
  · cases hv
    have hlen : (l.take j).length = j := by rw [List.length_take]; omega
    refine ⟨by omega, .inr ⟨_, _, _, by rw [hlen], hb, by omega, fun i hi' => ?_⟩⟩
    rw [show (l.take j).getD i e0 = l.getD i e0 by rw [List.getD_eq_getElem?_getD, List.getD_eq_getElem?_getD, List.getElem?_take_of_lt (by omega)]]
    exact hi i (by omega)
theorem EntsAt.drop {w : World} {b off n cap j : Nat} {l : List Ent3} (h : EntsAt w (.slice (some ⟨b, off, none⟩) n cap) l) (hj : j ≤ n) : EntsAt w (.slice (some ⟨b, off + j * 3, none⟩) (n - j) (cap - j)) (l.drop j) := by
  obtain ⟨hl, ⟨⟨_, _, h, hz⟩, rfl⟩ | ⟨b', off', cap', hv, hb, hc, hi⟩⟩ := h
  · cases h
    have : j = 0 := by omega
    subst this
    exact ⟨Nat.zero_le _, .inl ⟨⟨_, _, rfl, fun h => by cases h⟩, rfl⟩⟩
  · cases hv
    have hlen : (l.drop j).length = l.length - j := List.length_drop ..
    refine ⟨by omega, .inr ⟨_, _, _, by rw [hlen], hb, by omega, fun i hi' => ?_⟩⟩
    rw [show (l.drop j).getD i e0 = l.getD (j + i) e0 by rw [List.getD_eq_getElem?_getD, List.getD_eq_getElem?_getD, List.getElem?_drop]]
    have := hi (j + i) (by omega)
    rw [Nat.add_mul, ← Nat.add_assoc] at this
    exact this
theorem ents_nil (w : World) : EntsAt w (.slice none 0 0) [] := ⟨Nat.zero_le _, .inl ⟨⟨_, _, rfl, fun _ => rfl⟩, rfl⟩⟩
theorem own_ents {w : World} {base : Nat} {E : TypeId} {v : Value} {l : List Ent3} {n : Nat} (h : w.ownsRow base E 3 v n (flat3 l)) (hn : n = l.length) (hl : l.length ≤ 1000000000) : EntsAt w v l := by
  subst hn
  have h' := h
  obtain ⟨_, ⟨h1, h2⟩ | ⟨g, cap, cur, rfl, hg, hh, hc, hm, hs, ht⟩⟩ := h
  · exact ⟨hl, .inl ⟨⟨none, 0, by rw [h1], fun _ => rfl⟩, List.length_eq_zero_iff.1 h2⟩⟩
  · refine ⟨hl, .inr ⟨g, 0, cap, rfl, (Array.getElem?_eq_some_iff.1 hh).1, hc, fun i hi => ?_⟩⟩
    rw [Nat.zero_add]
    exact own3_cells h' rfl hi
theorem ents_block {w : World} {b : Nat} {E : TypeId} {cs : Array Value} {l : List Ent3} (h : w.heap[b]? = some (.cells cs E (0, 0))) (hc : cs.toList = flat3 l) (hl : l.length ≤ 1000000000) :
    EntsAt w (.slice (some ⟨b, 0, none⟩) l.length l.length) l := by
  refine ⟨hl, .inr ⟨b, 0, l.length, rfl, (Array.getElem?_eq_some_iff.1 h).1, Nat.le_refl _, fun i hi => ?_⟩⟩
  obtain ⟨f1, f2, f3⟩ := flat3_get l i hi
  rw [← hc] at f1 f2 f3
  simp only [World.cell?, h, Nat.zero_add]
  refine ⟨?_, ?_, ?_⟩
  · show (if false = true then none else cs[i * 3]?) = _
    simpa using f1
  · show (if false = true then none else cs[i * 3 + 1]?) = _
    simpa using f2
  · show (if false = true then none else cs[i * 3 + 2]?) = _
    simpa using f3
theorem HeapAt.ents {w : World} {hb B : Nat} {v : Value} {L : List Ent3} (h : HeapAt w hb B v L) (hl : L.length ≤ 1000000000) : EntsAt w v L := own_ents h.own rfl hl
theorem HeapAt.cell {w : World} {hb B : Nat} {v : Value} {L : List Ent3} (h : HeapAt w hb B v L) : w.cell? ⟨hb, 0, none⟩ = some v := by simp [World.cell?, h.blk]

set_option maxHeartbeats 1000000 in
theorem len_heap {w : World} {hb B : Nat} {v : Value} {L : List Ent3} (h : HeapAt w hb B v L) (hn : L.length ≤ 1000000) : Calls Try.prog 12 #[.pointer (some ⟨hb, 0, none⟩)] w (Ret (iv L.length) w) := by
  have c0 := h.cell
  obtain ⟨a, cap, rfl, _, _⟩ := (h.ents (by omega)).shape
  clear h
  go_enter Try.func12, Try.ntmps12
  go_wp2
  go_ret
  exact ⟨rfl, Grows.refl w⟩

def pushF (L M : List Ent3) : List Ent3 := M.foldl addF L
theorem addF_len (L : List Ent3) (e : Ent3) : (addF L e).length = L.length + 1 := by unfold addF; rw [riseF_len, List.length_append]; rfl
theorem pushF_len (L M : List Ent3) : (pushF L M).length = L.length + M.length := by
  unfold pushF
  induction M generalizing L with
  | nil => rfl
  | cons e M ih => rw [List.foldl_cons, ih, addF_len, List.length_cons]; omega
theorem pushF_take (L M : List Ent3) (k : Nat) (hk : k < M.length) : pushF L (M.take (k + 1)) = addF (pushF L (M.take k)) (M.getD k e0) := by
  unfold pushF
  rw [List.take_succ_eq_append_getElem hk, List.foldl_append, List.getD_eq_getElem?_getD, List.getElem?_eq_getElem hk]
  rfl

set_option maxRecDepth 100000 in
set_option maxHeartbeats 2000000 in
theorem push_heap {w : World} {hb B : Nat} {v : Value} {L : List Ent3} (h : HeapAt w hb B v L) (u : Value) (M : List Ent3) (hu : EntsAt w u M) (hf : Far u M hb v) (hn : L.length + M.length ≤ 1000) :
    Calls Try.prog 10 #[.pointer (some ⟨hb, 0, none⟩), u] w (HPost (iv (L.length + M.length)) (pushF L M) w hb B v) := by
  obtain ⟨a, cap, rfl, _, _⟩ := hu.shape
  have H := Lib.hid h
  have HU := Lib.hid hu
  have HF := Lib.hid hf
  clear h hu hf
  generalize hm : M.length = m at hn ⊢
  have HM := Lib.hid hm
  clear hm
  go_enter Try.func10, Try.ntmps10
  go_wp2
  go_loopw [11] (fun i wr => ∃ (k : Nat) (v' : Value), i = iv k ∧ k ≤ m ∧ HeapAt wr hb B v' (pushF L (M.take k)) ∧ HStep w wr hb v v') (fun i _ => m - (intOf i).toNat)
  case atStart => exact ⟨0, v, rfl, Nat.zero_le _, H.out, HStep.of hb v (Grows.refl _)⟩
  case round =>
    obtain ⟨k, v', rfl, hk, hh, hs⟩ := hrel
    have HH := Lib.hid hh
    have HS := Lib.hid hs
    clear hh hs
    by_cases hkm : k < m
    · have HE := Lib.hid (HU.out.step HS.out HF.out)
      obtain ⟨b, off, rfl, hb0, x1, x2, x3⟩ := HE.out.at_ (i := k) (by rw [HM.out]; exact hkm)
      have HT := Lib.hid (pushF_take L M k (by rw [HM.out]; exact hkm))
      have HLn : Hid ((pushF L (M.take k)).length ≤ 1000) := Lib.hid (by rw [pushF_len, List.length_take, HM.out]; omega)
      generalize hex : M.getD k e0 = ex at x1 x2 x3 HT
      obtain ⟨xa, xb, xc⟩ := ex
      simp only at x1 x2 x3
      clear hex
      have CF : Hid (∀ w1, Grows (wr.alloc (.cells #[.int .i64 xa, .int .i64 xb, .int .i64 xc] 30)) w1 → w1.cell? ⟨wr.heap.size, 0, none⟩ = some (.int .i64 xa) ∧ w1.cell? ⟨wr.heap.size, 1, none⟩ = some (.int .i64 xb) ∧ w1.cell? ⟨wr.heap.size, 2, none⟩ = some (.int .i64 xc)) := Lib.hid fun w1 hg1 => by
        obtain ⟨k1, k2, k3, _⟩ := cells3 (hg1.block (heap_new wr (.cells #[.int .i64 xa, .int .i64 xb, .int .i64 xc] 30) _ rfl))
        exact ⟨k1, k2, k3⟩
      go_wp2_with fail
      refine wp_region_tab 4 (by kernel_rfl) (by kernel_rfl) ?_
      intro w0 hw0 hg1 hg1'
      simp only [List.take_succ_cons, List.take_zero, List.drop_succ_cons, List.drop_zero]
      refine tab_val (.pointer (some ⟨hb, 0, none⟩)) (fun r w1 hr hg hA => by obtain ⟨q0, -⟩ := hA; have q0e : r (.tmp 0) = .pointer (some ⟨hb, 0, none⟩) := q0; exact ⟨rfl, by simp [go_sem, q0e]⟩) ?_
      refine tab_val (.pointer (some ⟨hb, 0, none⟩)) (fun r w1 hr hg hA => by obtain ⟨⟨_, q0⟩, -⟩ := hA; have q0e : r (.tmp 15) = .pointer (some ⟨hb, 0, none⟩) := q0; exact ⟨rfl, by simp [go_sem, q0e]⟩) ?_
      refine tab_val (.pointer (some ⟨hb, 0, none⟩)) (fun r w1 hr hg hA => by obtain ⟨⟨_, q0⟩, -⟩ := hA; have q0e : r (.tmp 16) = .pointer (some ⟨hb, 0, none⟩) := q0; exact ⟨rfl, by simp [go_sem, q0e]⟩) ?_
      refine tab_val (en (xa, xb, xc)) (fun r w1 hr hg hA => by obtain ⟨q0, -⟩ := hA; have q0e : r (.tmp 6) = .pointer (some ⟨wr.heap.size, 0, none⟩) := q0; have hc := CF.out _ (hg1.trans hg); exact ⟨rfl, by simp [go_sem, q0e, hc]⟩) ?_
      refine tab_end ?_
      simp only [List.reverse_cons, List.reverse_nil, List.nil_append, List.cons_append, Out, BlockP, forall_eq, forall_const, Act.put, List.setIfInBounds_toArray, List.set_cons_succ, List.set_cons_zero]
      intro wA hgA
      have GA : Hid (Grows wr wA) := Lib.hid (((Grows.refl wr).al _).trans (hg1.trans hgA))
      clear hg1 hgA hg1' hw0 CF x1 x2 x3
      go_wp2_with fail
      refine (add_heap (HH.out.grows GA.out) (xa, xb, xc) HLn.out).mono ?_
      rintro _ w2 ⟨rfl, v2, h2, s2⟩
      have H2 := Lib.hid h2
      have S2 := Lib.hid (HS.out.trans (HStep.after GA.out s2))
      clear h2 s2
      go_wp2
      refine ⟨⟨k + 1, v2, by simp, by omega, ?_, S2.out⟩, by simp only [intOf]; omega⟩
      rw [HT.out]
      exact H2.out
    · have hkm' : k = m := by omega
      subst hkm'
      have c0 := HH.out.cell
      obtain ⟨a', cap', hv', _, _⟩ := (HH.out.ents (by rw [pushF_len, List.length_take, HM.out]; omega)).shape
      rw [hv'] at c0
      have hlen : ((pushF L (M.take k)).length : Int) = L.length + k := by rw [pushF_len, List.length_take, HM.out]; omega
      go_wp2
      go_ret
      refine ⟨?_, v', ?_, HS.out⟩
      · rfl
      · have := HH.out
        rw [List.take_of_length_le (by rw [HM.out]; omega)] at this
        exact this
end Go.Proofs.Ytcmlcoedgfehgaa
