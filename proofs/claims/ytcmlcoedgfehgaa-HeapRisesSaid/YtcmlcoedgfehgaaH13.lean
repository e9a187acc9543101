/-
  Layer 5: what lies in a heap, as lists (pure).
-/
import Derived.Test.YtcmlcoedgfehgaaH12
namespace Go.Proofs.Ytcmlcoedgfehgaa
open Go.RowKit Go.Tab

theorem lessE_iff (a b : Ent3) : lessE a b = true ↔ (a.1 < b.1 ∨ (a.1 = b.1 ∧ (a.2.1 < b.2.1 ∨ (a.2.1 = b.2.1 ∧ a.2.2 < b.2.2)))) := by
  unfold lessE
  split
  · rename_i h1
    split
    · rename_i h2; simp [h1, h2]
    · rename_i h2; simp [h1, h2]
  · rename_i h1; simp [h1]
theorem lessE_not (a b : Ent3) : lessE a b = false ↔ ¬ (a.1 < b.1 ∨ (a.1 = b.1 ∧ (a.2.1 < b.2.1 ∨ (a.2.1 = b.2.1 ∧ a.2.2 < b.2.2)))) := by
  rw [← lessE_iff, Bool.not_eq_true]
/-- b does not come ahead of a. -/
def leE (a b : Ent3) : Prop := lessE b a = false
theorem leE.refl (a : Ent3) : leE a a := by unfold leE; rw [lessE_not]; omega
theorem leE.trans {a b c : Ent3} (h1 : leE a b) (h2 : leE b c) : leE a c := by unfold leE at *; rw [lessE_not] at *; omega
theorem leE.of {a b : Ent3} (h : lessE a b = true) : leE a b := by unfold leE; rw [lessE_iff] at h; rw [lessE_not]; omega
theorem leE.anti {a b : Ent3} (h1 : leE a b) (h2 : leE b a) : a = b := by
  unfold leE at *; rw [lessE_not] at *
  exact Prod.ext (by omega) (Prod.ext (by omega) (by omega))

abbrev ge (L : List Ent3) (i : Nat) : Ent3 := L.getD i e0
def Heap (L : List Ent3) : Prop := ∀ i, 0 < i → i < L.length → leE (ge L ((i - 1) / 2)) (ge L i)
theorem ge_set (L : List Ent3) (i k : Nat) (e : Ent3) (hi : i < L.length) : ge (L.set i e) k = if k = i then e else ge L k := by
  unfold ge
  rw [List.getD_eq_getElem?_getD, List.getD_eq_getElem?_getD, List.getElem?_set]
  by_cases h : i = k
  · subst h; simp [hi]
  · rw [if_neg h, if_neg (fun e => h e.symm)]
theorem ge_swap (L : List Ent3) (i j k : Nat) (hi : i < L.length) (hj : j < L.length) : ge (swapF L i j) k = if k = j then ge L i else if k = i then ge L j else ge L k := by
  unfold swapF
  rw [ge_set _ _ _ _ (by rw [List.length_set]; exact hj), ge_set _ _ _ _ hi]
theorem swap_perm (L : List Ent3) (i j : Nat) (hi : i < L.length) (hj : j < L.length) : (swapF L i j).Perm L := by
  have : ((L.set i L[j]).set j L[i]).Perm L := List.set_set_perm hi hj
  unfold swapF
  rw [List.getD_eq_getElem?_getD, List.getD_eq_getElem?_getD, List.getElem?_eq_getElem hi, List.getElem?_eq_getElem hj]
  exact this

theorem rise_perm (L : List Ent3) (p : Nat) (hp : p < L.length) : (riseF L p).Perm L := by
  induction p using Nat.strongRecOn generalizing L with
  | _ p ih =>
    by_cases h0 : 0 < p
    · cases h : lessE (L.getD p e0) (L.getD ((p - 1) / 2) e0) with
      | false => rw [riseF_no h]
      | true =>
        rw [riseF_yes h0 h]
        exact (ih _ (by omega) _ (by rw [swapF_len]; omega)).trans (swap_perm L _ _ hp (by omega))
    · rw [show p = 0 by omega, riseF_zero]
theorem sink_perm (L : List Ent3) (k : Nat) (hk : k < L.length) : (sinkF L k).Perm L := by
  generalize hm : L.length - k = m
  induction m using Nat.strongRecOn generalizing L k with
  | _ m ih =>
    by_cases h : lstF L k 2 = k
    · rw [sinkF_no h]
    · have := lstF_lt L k 2
      rw [sinkF_yes h]
      exact (ih (L.length - lstF L k 2) (by omega) (swapF L k (lstF L k 2)) _ (by rw [swapF_len]; omega) (by rw [swapF_len])).trans (swap_perm L _ _ hk (by omega))

theorem rise_heap (p : Nat) : ∀ (L : List Ent3), p < L.length → (∀ i, 0 < i → i < L.length → i ≠ p → leE (ge L ((i - 1) / 2)) (ge L i)) → (∀ i, 0 < i → i < L.length → (i - 1) / 2 = p → 0 < p → leE (ge L ((p - 1) / 2)) (ge L i)) → Heap (riseF L p) := by
  induction p using Nat.strongRecOn with
  | _ p ih =>
    intro L hp h1 h2
    by_cases h0 : 0 < p
    · cases h : lessE (L.getD p e0) (L.getD ((p - 1) / 2) e0) with
      | false =>
        rw [riseF_no h]
        intro i hi hin
        by_cases hip : i = p
        · subst hip; exact h
        · exact h1 i hi hin hip
      | true =>
        rw [riseF_yes h0 h]
        have hle : leE (ge L p) (ge L ((p - 1) / 2)) := leE.of h
        have hqp : (p - 1) / 2 < p := by omega
        have hpq : leE (ge L ((p - 1) / 2)) (ge L ((p - 1) / 2)) := leE.refl _
        generalize hq : (p - 1) / 2 = q at *
        have hqn : q < L.length := by omega
        have hge := fun k => ge_swap L p q k hp hqn
        refine ih q hqp _ (by rw [swapF_len]; exact hqn) (fun i hi hin hiq => ?_) (fun i hi hin hiq hq0 => ?_)
        · rw [swapF_len] at hin
          rw [hge, hge]
          by_cases hip : i = p
          · subst hip
            rw [hq, if_pos rfl, if_neg hiq, if_pos rfl]
            exact hle
          · rw [if_neg hiq, if_neg hip]
            by_cases hjq : (i - 1) / 2 = q
            · rw [if_pos hjq]
              have := h1 i hi hin hip
              rw [hjq] at this
              exact hle.trans this
            · rw [if_neg hjq]
              by_cases hjp : (i - 1) / 2 = p
              · rw [if_pos hjp]
                exact h2 i hi hin hjp h0
              · rw [if_neg hjp]
                exact h1 i hi hin hip
        · rw [swapF_len] at hin
          have hr := h1 q hq0 hqn (by omega)
          rw [hge, hge, if_neg (by omega), if_neg (by omega), if_neg (by omega)]
          by_cases hip : i = p
          · rw [if_pos hip]; exact hr
          · rw [if_neg hip]
            have := h1 i hi hin hip
            rw [hiq] at this
            exact hr.trans this
    · have hp0 : p = 0 := by omega
      subst hp0
      rw [riseF_zero]
      exact fun i hi hin => h1 i hi hin (by omega)

theorem lst_spec (L : List Ent3) (k : Nat) (hk : k < L.length) : leE (ge L (lstF L k 2)) (ge L k) ∧ (∀ i, 0 < i → i < L.length → (i - 1) / 2 = k → leE (ge L (lstF L k 2)) (ge L i)) ∧ (lstF L k 2 = k ∨ ((lstF L k 2 - 1) / 2 = k ∧ k < lstF L k 2 ∧ lstF L k 2 < L.length)) := by
  have key : ∀ j, j ≤ 2 → leE (ge L (lstF L k j)) (ge L k) ∧ (∀ i, 2 * k + 1 ≤ i → i < 2 * k + 1 + j → i < L.length → leE (ge L (lstF L k j)) (ge L i)) ∧ (lstF L k j = k ∨ (2 * k + 1 ≤ lstF L k j ∧ lstF L k j < 2 * k + 1 + j ∧ lstF L k j < L.length)) := by
    intro j
    induction j with
    | zero => exact fun _ => ⟨leE.refl _, fun i h1 h2 => absurd h2 (by omega), .inl rfl⟩
    | succ j ih =>
      intro hj
      obtain ⟨i1, i2, i3⟩ := ih (by omega)
      unfold lstF
      split
      · rename_i h
        have hle := leE.of h.2
        refine ⟨hle.trans i1, fun i h1 h2 h3 => ?_, .inr ⟨by omega, by omega, h.1⟩⟩
        by_cases hi : i = 2 * k + 1 + j
        · rw [hi]; exact leE.refl _
        · exact hle.trans (i2 i h1 (by omega) h3)
      · rename_i h
        refine ⟨i1, fun i h1 h2 h3 => ?_, ?_⟩
        · by_cases hi : i = 2 * k + 1 + j
          · subst hi
            unfold leE
            cases hb : lessE (L.getD (2 * k + 1 + j) e0) (L.getD (lstF L k j) e0) with
            | false => rfl
            | true => exact absurd ⟨h3, hb⟩ h
          · exact i2 i h1 (by omega) h3
        · rcases i3 with h | h
          · exact .inl h
          · exact .inr ⟨h.1, by omega, h.2.2⟩
  obtain ⟨i1, i2, i3⟩ := key 2 (Nat.le_refl _)
  refine ⟨i1, fun i h1 h2 h3 => i2 i (by omega) (by omega) h2, ?_⟩
  rcases i3 with h | h
  · exact .inl h
  · exact .inr ⟨by omega, by omega, h.2.2⟩

theorem sink_heap (m : Nat) : ∀ (L : List Ent3) (p : Nat), L.length - p = m → p < L.length → (∀ i, 0 < i → i < L.length → (i - 1) / 2 ≠ p → leE (ge L ((i - 1) / 2)) (ge L i)) → (∀ i, 0 < i → i < L.length → (i - 1) / 2 = p → 0 < p → leE (ge L ((p - 1) / 2)) (ge L i)) → Heap (sinkF L p) := by
  induction m using Nat.strongRecOn with
  | _ m ih =>
    intro L p hm hp h1 h2
    obtain ⟨s1, s2, s3⟩ := lst_spec L p hp
    by_cases h : lstF L p 2 = p
    · rw [sinkF_no h]
      rw [h] at s2
      intro i hi hin
      by_cases hj : (i - 1) / 2 = p
      · rw [hj]; exact s2 i hi hin hj
      · exact h1 i hi hin hj
    · rw [sinkF_yes h]
      rcases s3 with s3 | s3
      · exact absurd s3 h
      obtain ⟨c1, c2, c3⟩ := s3
      generalize lstF L p 2 = c at *
      have hge := fun k => ge_swap L p c k hp c3
      refine ih (L.length - c) (by omega) _ c (by rw [swapF_len]) (by rw [swapF_len]; exact c3) (fun i hi hin hj => ?_) (fun i hi hin hj hc0 => ?_)
      · rw [swapF_len] at hin
        rw [hge, hge, if_neg hj]
        by_cases hjp : (i - 1) / 2 = p
        · rw [if_pos hjp]
          by_cases hic : i = c
          · rw [if_pos hic]; exact s1
          · rw [if_neg hic, if_neg (by omega)]
            exact s2 i hi hin hjp
        · rw [if_neg hjp, if_neg (by intro e; rw [e] at hjp; exact hjp c1)]
          by_cases hip : i = p
          · subst hip
            rw [if_pos rfl]
            exact h2 c (by omega) c3 c1 hi
          · rw [if_neg hip]
            exact h1 i hi hin hjp
      · rw [swapF_len] at hin
        rw [hge, hge, c1, if_neg (by omega), if_pos rfl, if_neg (by omega), if_neg (by omega)]
        have := h1 i hi hin (by omega)
        rw [hj] at this
        exact this

theorem add_perm (L : List Ent3) (e : Ent3) : (addF L e).Perm (e :: L) :=
  (rise_perm _ _ (by rw [List.length_append, List.length_singleton]; omega)).trans (List.perm_append_singleton _ _)
theorem ge_snoc (L : List Ent3) (e : Ent3) (i : Nat) (hi : i < L.length) : ge (L ++ [e]) i = ge L i := by
  unfold ge
  rw [List.getD_eq_getElem?_getD, List.getD_eq_getElem?_getD, List.getElem?_append_left hi]
theorem add_heapF {L : List Ent3} (h : Heap L) (e : Ent3) : Heap (addF L e) := by
  have hl : (L ++ [e]).length = L.length + 1 := by rw [List.length_append]; rfl
  refine rise_heap _ _ (by omega) (fun i hi hin hne => ?_) (fun i hi hin hj h0 => ?_)
  · rw [hl] at hin
    rw [ge_snoc _ _ _ (by omega), ge_snoc _ _ _ (by omega)]
    exact h i hi (by omega)
  · omega
theorem heap_nil : Heap [] := fun i _ hin => absurd hin (by simp)
theorem push_perm (L M : List Ent3) : (pushF L M).Perm (M ++ L) := by
  unfold pushF
  induction M generalizing L with
  | nil => exact List.Perm.refl _
  | cons e M ih =>
    rw [List.foldl_cons]
    exact (ih _).trans (((add_perm L e).append_left M).trans List.perm_middle)
theorem push_heapF {L : List Ent3} (h : Heap L) (M : List Ent3) : Heap (pushF L M) := by
  unfold pushF
  induction M generalizing L with
  | nil => exact h
  | cons e M ih => exact ih (add_heapF h e)

theorem base_perm (L : List Ent3) (p : Nat) (hp : p < L.length) : (ge L p :: baseF L p).Perm L := by
  have h1 := swap_perm L p (L.length - 1) hp (by omega)
  have h2 : swapF L p (L.length - 1) = baseF L p ++ [ge L p] := by
    have hl : (swapF L p (L.length - 1)).length = (L.length - 1) + 1 := by rw [swapF_len]; omega
    have h3 := take_succ_getD (swapF L p (L.length - 1)) (L.length - 1) (by omega)
    rw [List.take_of_length_le (by omega)] at h3
    rw [h3]
    congr 1
    · unfold baseF swapF
      rw [List.take_set_of_le (Nat.le_refl _)]
    · have := ge_swap L p (L.length - 1) (L.length - 1) hp (by omega)
      rw [if_pos rfl] at this
      exact congrArg (fun x => [x]) this
  rw [h2] at h1
  exact (List.perm_append_singleton _ _).symm.trans h1
theorem ge_base (L : List Ent3) (p i : Nat) (hp : p < L.length) (hi : i < L.length - 1) : ge (baseF L p) i = if i = p then ge L (L.length - 1) else ge L i := by
  have : ge (baseF L p) i = ge (L.set p (L.getD (L.length - 1) e0)) i := by
    unfold baseF ge
    simp only [List.getD_eq_getElem?_getD, List.getElem?_take_of_lt hi]
  rw [this, ge_set _ _ _ _ hp]
theorem remove_perm (L : List Ent3) (p : Nat) (hp : p < L.length) : (ge L p :: removeF L p).Perm L := by
  unfold removeF
  split
  · rename_i h
    exact (((sink_perm _ _ (by rw [riseF_len, baseF_len]; exact h)).trans (rise_perm _ _ (by rw [baseF_len]; exact h))).cons _).trans (base_perm L p hp)
  · exact base_perm L p hp
theorem remove_heapF {L : List Ent3} (h : Heap L) (p : Nat) (hp : p < L.length) : Heap (removeF L p) := by
  unfold removeF
  split
  · rename_i hlt
    have hb := fun i hi => ge_base L p i hp hi
    have hbl := baseF_len L p
    have b1 : ∀ i, 0 < i → i < L.length - 1 → i ≠ p → (i - 1) / 2 ≠ p → leE (ge (baseF L p) ((i - 1) / 2)) (ge (baseF L p) i) := fun i h0 hi h1 h2 => by
      rw [hb _ (by omega), hb _ hi, if_neg h1, if_neg h2]
      exact h i h0 (by omega)
    have b2 : ∀ i, 0 < i → i < L.length - 1 → (i - 1) / 2 = p → 0 < p → leE (ge (baseF L p) ((p - 1) / 2)) (ge (baseF L p) i) := fun i h0 hi h1 h2 => by
      rw [hb _ (by omega), hb _ hi, if_neg (by omega), if_neg (by omega)]
      have := h i h0 (by omega)
      rw [h1] at this
      exact (h p h2 (by omega)).trans this
    by_cases hr : 0 < p ∧ lessE (ge (baseF L p) p) (ge (baseF L p) ((p - 1) / 2)) = true
    · have hh : Heap (riseF (baseF L p) p) := by
        refine rise_heap p _ (by omega) (fun i h0 hi hne => ?_) (fun i h0 hi hj h1 => b2 i h0 (by omega) hj h1)
        by_cases hj : (i - 1) / 2 = p
        · rw [hj]
          exact (leE.of hr.2).trans (b2 i h0 (by omega) hj hr.1)
        · exact b1 i h0 (by omega) hne hj
      refine sink_heap _ _ p rfl (by rw [riseF_len]; omega) (fun i h0 hi _ => hh i h0 hi) (fun i h0 hi hj h1 => ?_)
      have := hh i h0 hi
      rw [hj] at this
      exact (hh p h1 (by rw [riseF_len]; omega)).trans this
    · have hr0 : riseF (baseF L p) p = baseF L p := by
        by_cases h0 : 0 < p
        · refine riseF_no ?_
          cases hb : lessE (List.getD (baseF L p) p e0) (List.getD (baseF L p) ((p - 1) / 2) e0) with
          | false => rfl
          | true => exact absurd ⟨h0, hb⟩ hr
        · rw [show p = 0 by omega, riseF_zero]
      rw [hr0]
      refine sink_heap _ _ p rfl (by omega) (fun i h0 hi hj => ?_) (fun i h0 hi hj h1 => b2 i h0 (by omega) hj h1)
      by_cases hip : i = p
      · subst hip
        unfold leE
        cases hb : lessE (ge (baseF L i) i) (ge (baseF L i) ((i - 1) / 2)) with
        | false => rfl
        | true => exact absurd ⟨h0, hb⟩ hr
      · exact b1 i h0 (by omega) hip hj
  · intro i hi hin
    rw [baseF_len] at hin
    rw [ge_base L p _ hp (by omega), ge_base L p _ hp hin, if_neg (by omega), if_neg (by omega)]
    exact h i hi (by omega)

theorem heap_least {L : List Ent3} (h : Heap L) (i : Nat) : i < L.length → leE (ge L 0) (ge L i) := by
  induction i using Nat.strongRecOn with
  | _ i ih =>
    intro hi
    by_cases h0 : 0 < i
    · exact (ih ((i - 1) / 2) (by omega) (by omega)).trans (h i h0 hi)
    · rw [show i = 0 by omega]; exact leE.refl _
theorem heap_least_mem {L : List Ent3} (h : Heap L) {x : Ent3} (hx : x ∈ L) : leE (ge L 0) x := by
  obtain ⟨i, hi, rfl⟩ := List.getElem_of_mem hx
  have := heap_least h i hi
  rw [show ge L i = L[i] from by simp [List.getD_eq_getElem?_getD, hi]] at this
  exact this
theorem pop_perm {L : List Ent3} (hL : 0 < L.length) : (ge L 0 :: popF L).Perm L := by
  unfold popF
  rw [if_pos hL]
  exact remove_perm L 0 hL
theorem pop_heapF {L : List Ent3} (h : Heap L) : Heap (popF L) := by
  unfold popF
  split
  · rename_i hL; exact remove_heapF h 0 hL
  · exact h

/-- Rising entries. -/
def RisesE (l : List Ent3) : Prop := l.Pairwise leE
theorem rises_unique {a b : List Ent3} (ha : RisesE a) (hb : RisesE b) (h : a.Perm b) : a = b :=
  List.Perm.eq_of_pairwise (fun _ _ _ _ h1 h2 => leE.anti h1 h2) ha hb h
/-- An entry put among others. -/
def insE (l : List Ent3) (e : Ent3) : List Ent3 :=
  match l with
  | [] => [e]
  | x :: l => if lessE e x = true then e :: x :: l else x :: insE l e
theorem insE_perm (l : List Ent3) (e : Ent3) : (insE l e).Perm (e :: l) := by
  induction l with
  | nil => exact List.Perm.refl _
  | cons x l ih =>
    unfold insE
    split
    · exact List.Perm.refl _
    · exact (ih.cons x).trans (List.Perm.swap e x l)
theorem insE_rises {l : List Ent3} (h : RisesE l) (e : Ent3) : RisesE (insE l e) := by
  induction l with
  | nil => exact List.pairwise_singleton _ _
  | cons x l ih =>
    obtain ⟨h1, h2⟩ := List.pairwise_cons.1 h
    unfold insE
    split
    · rename_i hl
      refine List.pairwise_cons.2 ⟨fun y hy => ?_, h⟩
      rcases List.mem_cons.1 hy with rfl | hy
      · exact leE.of hl
      · exact (leE.of hl).trans (h1 y hy)
    · rename_i hl
      refine List.pairwise_cons.2 ⟨fun y hy => ?_, ih h2⟩
      rcases List.mem_cons.1 ((insE_perm l e).mem_iff.1 hy) with rfl | hy
      · unfold leE; simpa using hl
      · exact h1 y hy
def srtE (l : List Ent3) : List Ent3 := l.foldl insE []
theorem inss_perm (l a : List Ent3) : (l.foldl insE a).Perm (l ++ a) := by
  induction l generalizing a with
  | nil => exact List.Perm.refl _
  | cons e l ih => exact (ih _).trans (((insE_perm a e).append_left l).trans List.perm_middle)
theorem inss_rises {a : List Ent3} (l : List Ent3) (h : RisesE a) : RisesE (l.foldl insE a) := by
  induction l generalizing a with
  | nil => exact h
  | cons e l ih => exact ih (insE_rises h e)
theorem srtE_perm (l : List Ent3) : (srtE l).Perm l := by have := inss_perm l []; rw [List.append_nil] at this; exact this
theorem srtE_rises (l : List Ent3) : RisesE (srtE l) := inss_rises l List.Pairwise.nil
theorem srtE_unique {a l : List Ent3} (ha : RisesE a) (h : a.Perm l) : a = srtE l := rises_unique ha (srtE_rises l) (h.trans (srtE_perm l).symm)
theorem srtE_len (l : List Ent3) : (srtE l).length = l.length := (srtE_perm l).length_eq
theorem srtE_heap {L : List Ent3} (h : Heap L) (hL : 0 < L.length) : srtE L = ge L 0 :: srtE (popF L) := by
  refine (srtE_unique (List.pairwise_cons.2 ⟨fun y hy => ?_, srtE_rises _⟩) (((srtE_perm _).cons _).trans (pop_perm hL))).symm
  have hy2 := (srtE_perm _).mem_iff.1 hy
  exact heap_least_mem h ((pop_perm hL).mem_iff.1 (List.mem_cons_of_mem _ hy2))
end Go.Proofs.Ytcmlcoedgfehgaa
