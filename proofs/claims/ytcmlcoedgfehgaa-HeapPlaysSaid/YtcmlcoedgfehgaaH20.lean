/-
  Layer 5: the heap against the document's list (pure); what lies apart.
-/
import Derived.Test.YtcmlcoedgfehgaaH19
namespace Go.Proofs.Ytcmlcoedgfehgaa
open Go.RowKit Go.Tab Go.WideShapes

theorem srtE_push (L : List Ent3) (a b : Ent3) : srtE (pushF L [a, b]) = insE (insE (srtE L) a) b := by
  refine (srtE_unique (insE_rises (insE_rises (srtE_rises L) a) b) ?_).symm
  refine ((insE_perm _ b).trans ((insE_perm _ a).cons b)).trans ?_
  refine List.Perm.trans ?_ (push_perm L [a, b]).symm
  exact (List.Perm.swap a b _).trans (((srtE_perm L).cons b).cons a)
theorem remove_erase (L : List Ent3) (e : Ent3) (he : e ∈ L) : (removeF L (L.idxOf e)).Perm (L.erase e) := by
  have hi : L.idxOf e < L.length := List.idxOf_lt_length_of_mem he
  have h := remove_perm L (L.idxOf e) hi
  have hg : ge L (L.idxOf e) = e := by
    simp [List.getD_eq_getElem?_getD, List.getElem?_eq_getElem hi]
  rw [hg] at h
  have := h.erase e
  rw [List.erase_cons_head] at this
  exact this
theorem erase_rises {l : List Ent3} (h : RisesE l) (e : Ent3) : RisesE (l.erase e) := h.sublist List.erase_sublist
def dropM (s : List Ent3 × Nat) (e : Ent3) : List Ent3 × Nat := (s.1.erase e, if e ∈ s.1 then s.2 + 1 else s.2)
theorem dropS_M (L : List Ent3) (c : Nat) (e : Ent3) (hH : Heap L) : srtE (dropS (L, c) e).1 = (dropM (srtE L, c) e).1 ∧ (dropS (L, c) e).2 = (dropM (srtE L, c) e).2 ∧ Heap (dropS (L, c) e).1 := by
  have hmem : e ∈ srtE L ↔ e ∈ L := (srtE_perm L).mem_iff
  unfold dropS dropM
  by_cases he : e ∈ L
  · have hi : L.idxOf e < L.length := List.idxOf_lt_length_of_mem he
    rw [if_pos hi, if_pos (hmem.2 he)]
    refine ⟨(srtE_unique (erase_rises (srtE_rises L) e) ?_).symm, rfl, remove_heapF hH _ hi⟩
    exact ((srtE_perm L).erase e).trans (remove_erase L e he).symm
  · have hi : ¬ L.idxOf e < L.length := fun h => he (List.idxOf_lt_length_iff.1 h)
    rw [if_neg hi, if_neg (fun h => he (hmem.1 h)), List.erase_of_not_mem (fun h => he (hmem.1 h))]
    exact ⟨rfl, rfl, hH⟩
theorem drops_M (L : List Ent3) (a b : Ent3) (hH : Heap L) : srtE ([a, b].foldl dropS (L, 0)).1 = ([a, b].foldl dropM (srtE L, 0)).1 ∧ ([a, b].foldl dropS (L, 0)).2 = ([a, b].foldl dropM (srtE L, 0)).2 ∧ Heap ([a, b].foldl dropS (L, 0)).1 := by
  obtain ⟨h1, h2, h3⟩ := dropS_M L 0 a hH
  generalize hs : dropS (L, 0) a = s at h1 h2 h3
  generalize hm : dropM (srtE L, 0) a = m at h1 h2
  obtain ⟨L1, c1⟩ := s
  obtain ⟨M1, d1⟩ := m
  simp only at h1 h2 h3
  subst h1 h2
  obtain ⟨k1, k2, k3⟩ := dropS_M L1 c1 b h3
  show srtE (dropS (dropS (L, 0) a) b).1 = (dropM (dropM (srtE L, 0) a) b).1 ∧ (dropS (dropS (L, 0) a) b).2 = (dropM (dropM (srtE L, 0) a) b).2 ∧ Heap (dropS (dropS (L, 0) a) b).1
  rw [hs, hm]
  exact ⟨k1, k2, k3⟩
theorem drops_len (L : List Ent3) (M : List Ent3) (c : Nat) : (M.foldl dropS (L, c)).1.length ≤ L.length := by
  induction M generalizing L c with
  | nil => exact Nat.le_refl _
  | cons e M ih =>
    rw [List.foldl_cons]
    obtain ⟨L1, c1, h1⟩ : ∃ L1 c1, dropS (L, c) e = (L1, c1) := ⟨_, _, rfl⟩
    rw [h1]
    refine Nat.le_trans (ih L1 c1) ?_
    unfold dropS at h1
    split at h1
    · cases h1; show (removeF L _).length ≤ L.length; rw [removeF_len]; omega
    · cases h1; exact Nat.le_refl _

theorem Far.step {w w' : World} {hb : Nat} {u v v' : Value} {M : List Ent3} (hf : Far u M hb v) (he : EntsAt w u M) (hs : HStep w w' hb v v') : Far u M hb v' := by
  rcases hf with rfl | hf
  · exact .inl rfl
  · obtain ⟨_, h | ⟨b, off, cap, hv, hlt, _, _⟩⟩ := he
    · exact .inl h.2
    · refine .inr fun b' hb' => ⟨(hf b' hb').1, fun hv' => ?_⟩
      rcases hs.row with hr | hr
      · exact (hf b' hb').2 (hr ▸ hv')
      · have := hr b' hv'
        rw [hv] at hb'
        have hbb : b = b' := Option.some.inj hb'
        omega
theorem Far.fresh {w : World} {hb B : Nat} {u v : Value} {L M : List Ent3} (h : HeapAt w hb B v L) (hu : ∀ g, u.ownBlock = some g → w.heap.size ≤ g) : Far u M hb v :=
  .inr fun b hb' => ⟨fun e => by have := h.lt; have := hu b hb'; omega, fun hv => by have := (own_lt h.own hv).2; have := hu b hb'; omega⟩

theorem cells7 {w : World} {b : Nat} {x0 x1 x2 x3 x4 x5 x6 : Value} {T : TypeId} (h : w.heap[b]? = some (.cells #[x0, x1, x2, x3, x4, x5, x6] T (0, 0))) :
    w.cell? ⟨b, 0, none⟩ = some x0 ∧ w.cell? ⟨b, 1, none⟩ = some x1 ∧ w.cell? ⟨b, 2, none⟩ = some x2 ∧ w.cell? ⟨b, 3, none⟩ = some x3 ∧ w.cell? ⟨b, 4, none⟩ = some x4 ∧ w.cell? ⟨b, 5, none⟩ = some x5 ∧ w.cell? ⟨b, 6, none⟩ = some x6 := by
  refine ⟨?_, ?_, ?_, ?_, ?_, ?_, ?_⟩ <;> simp [World.cell?, h]
/-- A slice of calls. -/
def ActsAt (w : World) (a : Option Addr) (n : Nat) (V : Nat → Nat → Int) : Prop :=
  n = 0 ∨ ∃ b off, a = some ⟨b, off, none⟩ ∧ b < w.heap.size ∧ ∀ i, i < n → ∀ j, j < 7 → w.cell? ⟨b, off + i * 7 + j, none⟩ = some (.int .i64 (V i j))
end Go.Proofs.Ytcmlcoedgfehgaa
