/-
  The law on boxes.
-/
import Derived.Test.YtkedcaplbdhmeaaE10
import Derived.Test.YtkedcaplbdhmeaaL4
namespace Go.Proofs.Ytkedcaplbdhmeaa
open Go.RowKit Go.Tab

theorem bx4_facts (l : List (Int × Int)) (q : Int × Int × Int × Int) :
    ((bx4 l q).1 ≤ q.1 ∧ (bx4 l q).2.1 ≤ q.2.1 ∧ q.2.2.1 ≤ (bx4 l q).2.2.1 ∧ q.2.2.2 ≤ (bx4 l q).2.2.2) ∧
    (∀ p ∈ l, (bx4 l q).1 ≤ p.1 ∧ p.1 ≤ (bx4 l q).2.2.1 ∧ (bx4 l q).2.1 ≤ p.2 ∧ p.2 ≤ (bx4 l q).2.2.2) ∧
    ((bx4 l q).1 = q.1 ∨ ∃ p ∈ l, p.1 = (bx4 l q).1) ∧ ((bx4 l q).2.2.1 = q.2.2.1 ∨ ∃ p ∈ l, p.1 = (bx4 l q).2.2.1) ∧
    ((bx4 l q).2.1 = q.2.1 ∨ ∃ p ∈ l, p.2 = (bx4 l q).2.1) ∧ ((bx4 l q).2.2.2 = q.2.2.2 ∨ ∃ p ∈ l, p.2 = (bx4 l q).2.2.2) := by
  induction l generalizing q with
  | nil => exact ⟨⟨Int.le_refl _, Int.le_refl _, Int.le_refl _, Int.le_refl _⟩, fun p h => (by cases h), .inl rfl, .inl rfl, .inl rfl, .inl rfl⟩
  | cons z l ih =>
    have h := ih (min q.1 z.1, min q.2.1 z.2, max q.2.2.1 z.1, max q.2.2.2 z.2)
    rw [show bx4 (z :: l) q = bx4 l (min q.1 z.1, min q.2.1 z.2, max q.2.2.1 z.1, max q.2.2.2 z.2) from rfl]
    generalize bx4 l (min q.1 z.1, min q.2.1 z.2, max q.2.2.1 z.1, max q.2.2.2 z.2) = r at h
    obtain ⟨⟨h1, h2, h3, h4⟩, h5, h6, h7, h8, h9⟩ := h
    simp only at h1 h2 h3 h4 h6 h7 h8 h9
    refine ⟨by clear h5 h6 h7 h8 h9; omega, fun p hp => ?_, ?_, ?_, ?_, ?_⟩
    · rcases List.mem_cons.1 hp with rfl | hp
      · clear h5 h6 h7 h8 h9 ih; omega
      · exact h5 p hp
    · clear h5 h7 h8 h9
      rcases h6 with hh | ⟨p, hp, he⟩
      · by_cases hc : q.1 ≤ z.1
        · exact .inl (by omega)
        · exact .inr ⟨z, List.mem_cons_self, by omega⟩
      · exact .inr ⟨p, List.mem_cons_of_mem _ hp, he⟩
    · clear h5 h6 h8 h9
      rcases h7 with hh | ⟨p, hp, he⟩
      · by_cases hc : z.1 ≤ q.2.2.1
        · exact .inl (by omega)
        · exact .inr ⟨z, List.mem_cons_self, by omega⟩
      · exact .inr ⟨p, List.mem_cons_of_mem _ hp, he⟩
    · clear h5 h6 h7 h9
      rcases h8 with hh | ⟨p, hp, he⟩
      · by_cases hc : q.2.1 ≤ z.2
        · exact .inl (by omega)
        · exact .inr ⟨z, List.mem_cons_self, by omega⟩
      · exact .inr ⟨p, List.mem_cons_of_mem _ hp, he⟩
    · clear h5 h6 h7 h8
      rcases h9 with hh | ⟨p, hp, he⟩
      · by_cases hc : z.2 ≤ q.2.2.2
        · exact .inl (by omega)
        · exact .inr ⟨z, List.mem_cons_self, by omega⟩
      · exact .inr ⟨p, List.mem_cons_of_mem _ hp, he⟩

/-- What the law asks of a box. -/
structure BoxOf (l : List (Int × Int)) (a c d e : Int) : Prop where
  all : ∀ i, i < l.length → ¬ (l.getD i (0, 0)).1 < a ∧ ¬ d < (l.getD i (0, 0)).1 ∧ ¬ (l.getD i (0, 0)).2 < c ∧ ¬ e < (l.getD i (0, 0)).2
  t0 : (l.any fun p => decide (p.1 = a)) = true
  t1 : (l.any fun p => decide (p.1 = d)) = true
  t2 : (l.any fun p => decide (p.2 = c)) = true
  t3 : (l.any fun p => decide (p.2 = e)) = true

theorem box_yes (l : List (Int × Int)) (hl : l ≠ []) (hr : rightB l = true) : ∃ a c d e, boxV l = box3v a c d e true ∧ BoxOf l a c d e := by
  unfold boxV
  rw [if_pos ⟨hl, hr⟩]
  match l, hl with
  | z :: l, _ =>
    obtain ⟨⟨h1, h2, h3, h4⟩, h5, h6, h7, h8, h9⟩ := bx4_facts (z :: l) (z.1, z.2, z.1, z.2)
    refine ⟨_, _, _, _, rfl, ?_⟩
    show BoxOf (z :: l) (bx4 (z :: l) (z.1, z.2, z.1, z.2)).1 (bx4 (z :: l) (z.1, z.2, z.1, z.2)).2.1 (bx4 (z :: l) (z.1, z.2, z.1, z.2)).2.2.1 (bx4 (z :: l) (z.1, z.2, z.1, z.2)).2.2.2
    generalize bx4 (z :: l) (z.1, z.2, z.1, z.2) = r at *
    simp only at h1 h2 h3 h4 h6 h7 h8 h9
    have hz : z ∈ z :: l := List.mem_cons_self
    refine ⟨fun i hi => ?_, ?_, ?_, ?_, ?_⟩
    · have hg : (z :: l).getD i (0, 0) = (z :: l)[i] := by rw [List.getD_eq_getElem?_getD, List.getElem?_eq_getElem hi]; rfl
      have := h5 _ (List.getElem_mem hi)
      rw [hg]
      clear h5 h6 h7 h8 h9
      omega
    all_goals (rw [List.any_eq_true]; simp only [decide_eq_true_eq])
    · rcases h6 with h | ⟨p, hp, he⟩
      · exact ⟨z, hz, h.symm⟩
      · exact ⟨p, hp, he⟩
    · rcases h7 with h | ⟨p, hp, he⟩
      · exact ⟨z, hz, h.symm⟩
      · exact ⟨p, hp, he⟩
    · rcases h8 with h | ⟨p, hp, he⟩
      · exact ⟨z, hz, h.symm⟩
      · exact ⟨p, hp, he⟩
    · rcases h9 with h | ⟨p, hp, he⟩
      · exact ⟨z, hz, h.symm⟩
      · exact ⟨p, hp, he⟩

theorem set4 {w : World} {b : Nat} {T : TypeId} {t0 t1 t2 t3 s0 s1 s2 s3 : Value} (h : w.heap[b]? = some (.cells #[t0, t1, t2, t3] T (0, 0))) :
    ((((w.setCell ⟨b, 0, none⟩ s0).setCell ⟨b, 1, none⟩ s1).setCell ⟨b, 2, none⟩ s2).setCell ⟨b, 3, none⟩ s3).heap[b]? = some (.cells #[s0, s1, s2, s3] T (0, 0)) := by
  simp [World.setCell, Array.getElem?_modify, h]
theorem cells4 {w : World} {b : Nat} {T : TypeId} {t0 t1 t2 t3 : Value} (h : w.heap[b]? = some (.cells #[t0, t1, t2, t3] T (0, 0))) :
    w.cell? ⟨b, 0, none⟩ = some t0 ∧ w.cell? ⟨b, 1, none⟩ = some t1 ∧ w.cell? ⟨b, 2, none⟩ = some t2 ∧ w.cell? ⟨b, 3, none⟩ = some t3 ∧
    w.frozen? ⟨b, 0, none⟩ = false ∧ w.frozen? ⟨b, 1, none⟩ = false ∧ w.frozen? ⟨b, 2, none⟩ = false ∧ w.frozen? ⟨b, 3, none⟩ = false := by
  refine ⟨?_, ?_, ?_, ?_, ?_, ?_, ?_, ?_⟩ <;> simp [World.cell?, World.frozen?, h]
theorem eq44 (w : World) : Sem.run Try.prog (Op.equalIn 10000 44 (.agg #[.bool true, .bool true, .bool true, .bool true]) (.agg #[.bool true, .bool true, .bool true, .bool true])) w = .ok true w := by kernel_rfl

theorem any_succ (l : List (Int × Int)) (f : Int × Int → Bool) (k : Nat) (h : k < l.length) : (l.take (k + 1)).any f = ((l.take k).any f || f (l.getD k (0, 0))) := by
  rw [List.take_succ_eq_append_getElem h, List.any_append]
  simp [h]

set_option maxHeartbeats 1000000 in
theorem law_boxes_nil (a : Option Addr) (cap : Nat) (w : World) :
    Calls Try.prog 5 #[.slice a 0 cap] w (Ret (.bool true) w) := by
  go_enter Try.func5, Try.ntmps5
  go_wp2_with fail
  refine (box_nil _ _ _).mono ?_
  rintro e w1 ⟨rfl, hg⟩
  have G1 := Lib.hid hg
  clear hg
  go_wp2_with fail
  refine (kn_any _).mono ?_
  rintro e w2 ⟨rfl, hg⟩
  obtain ⟨c1, c2, c3, c4⟩ := box2 hg
  have G2 := Lib.hid (((G1.out.al _).al _).trans hg)
  clear hg
  go_wp2
  go_ret
  exact ⟨rfl, G2.out⟩

set_option maxRecDepth 100000 in
set_option maxHeartbeats 4000000 in
theorem law_boxes_posA (l : List (Int × Int)) (b off n cap : Nat) (w : World) (hn : (n : Int) ≤ 50) (hm0 : 0 < n) (hnc : n ≤ cap) (hcap : cap ≤ 9223372036854775807) (Hn : Hid (l.length = n)) (hb : b < w.heap.size)
    (Hc : Hid (∀ i, i < n → w.cell? ⟨b, off + i * 2, none⟩ = some (.int .i64 (l.getD i (0, 0)).1) ∧ w.cell? ⟨b, off + i * 2 + 1, none⟩ = some (.int .i64 (l.getD i (0, 0)).2))) :
    Calls Try.prog 5 #[.slice (some ⟨b, off, none⟩) n cap] w (Ret (.bool true) w) := by
  have hp : Hid (PtsAt w (.slice (some ⟨b, off, none⟩) n cap) l) := Lib.hid ⟨by have := Hn.out; omega, .inr ⟨b, off, cap, by rw [Hn.out], hb, by rw [Hn.out]; exact Hc.out⟩⟩
  have hne : Hid (l ≠ []) := Lib.hid fun h => by have := Hn.out; rw [h] at this; simp at this <;> omega
  cases hr : rightB l with
  | false =>
    have hV : boxV l = box3v 0 0 0 0 false := by simp [boxV, hr]
    have HV := Lib.hid hV
    have Hr := Lib.hid hr
    clear hV hr
    go_enter Try.func5, Try.ntmps5
    go_wp2_with fail
    refine (box_any _ l _ hp.out).mono ?_
    rw [HV.out]
    rintro e w1 ⟨rfl, hg⟩
    have G1 := Lib.hid hg
    clear hg
    go_wp2_with fail
    have G2 := Lib.hid ((G1.out.al (.cells #[.int .i64 0, .int .i64 0] 23)).al (.cells #[.int .i64 0, .int .i64 0] 23))
    refine (ofs_any _ l _ (hp.out.grows G2.out) (by have := Hn.out; omega)).mono ?_
    rintro e w2 ⟨u, rfl, hu, hg2⟩
    have Hu := Lib.hid hu
    have Hg2 := Lib.hid hg2
    clear hu hg2
    go_wp2_with fail
    refine (all_any u l _ Hu.out).mono ?_
    rw [Hr.out]
    rintro e w3 ⟨rfl, hg3⟩
    have G3 := Lib.hid (Hg2.out.trans hg3)
    clear hg3
    go_wp2_with fail
    refine (kn_any _).mono ?_
    rintro e w4 ⟨rfl, hg4⟩
    obtain ⟨c1, c2, c3, c4⟩ := box2 (G3.out.trans hg4)
    have G4 := Lib.hid (G2.out.trans (G3.out.trans hg4))
    clear hg4
    go_wp2
    go_ret
    exact ⟨rfl, G4.out⟩
  | true =>
    obtain ⟨a, c, d, e, hV, hB⟩ := box_yes l hne.out hr
    have HV := Lib.hid hV
    have HB := Lib.hid hB
    have Hr := Lib.hid hr
    clear hV hr hB
    go_enter Try.func5, Try.ntmps5
    go_wp2_with fail
    refine (box_any _ l _ hp.out).mono ?_
    rw [HV.out]
    rintro _ w1 ⟨rfl, hg⟩
    have G1 := Lib.hid hg
    clear hg
    go_wp2_with fail
    have G2 := Lib.hid ((G1.out.al (.cells #[.int .i64 a, .int .i64 c] 23)).al (.cells #[.int .i64 d, .int .i64 e] 23))
    refine (ofs_any _ l _ (hp.out.grows G2.out) (by have := Hn.out; omega)).mono ?_
    rintro _ w2 ⟨u, rfl, hu, hg2⟩
    have Hu := Lib.hid hu
    have Hg2 := Lib.hid hg2
    clear hu hg2
    go_wp2_with fail
    refine (all_any u l _ Hu.out).mono ?_
    rw [Hr.out]
    rintro _ w3 ⟨rfl, hg3⟩
    have hG3 := Hg2.out.trans hg3
    obtain ⟨h3, h4⟩ := box2h hG3
    have G3 := Lib.hid (G2.out.trans hG3)
    have hs := G1.out.size
    generalize hb3 : w1.heap.size = b3 at h3 h4 hs ⊢
    generalize hb4 : b3 + 1 = b4 at h4 ⊢
    have n34 : ¬ b3 = b4 := by omega
    have n43 : ¬ b4 = b3 := by omega
    have hl4 : w.heap.size ≤ b4 := by omega
    have H3 := Lib.hid h3
    have H4 := Lib.hid h4
    clear hg3 hG3 h3 h4 G2 Hg2 G1 hb3 hb4 Hu hp hne HV Hr
    go_wp2
    have h6 := heap_new w3 (.cells #[.bool false, .bool false, .bool false, .bool false] 44) _ rfl
    have H3' := Lib.hid (Grows.block (Grows.alloc w3 (.cells #[.bool false, .bool false, .bool false, .bool false] 44)) H3.out)
    have H4' := Lib.hid (Grows.block (Grows.alloc w3 (.cells #[.bool false, .bool false, .bool false, .bool false] 44)) H4.out)
    have G3' := Lib.hid (G3.out.al (.cells #[.bool false, .bool false, .bool false, .bool false] 44))
    have n36 : ¬ b3 = w3.heap.size := fun h => by have := (Array.getElem?_eq_some_iff.1 H3.out).1; omega
    have n46 : ¬ b4 = w3.heap.size := fun h => by have := (Array.getElem?_eq_some_iff.1 H4.out).1; omega
    have hl6 : w.heap.size ≤ w3.heap.size := G3.out.size
    generalize hW : w3.alloc (.cells #[.bool false, .bool false, .bool false, .bool false] 44) = W at h6 H3' H4' G3' ⊢
    generalize hb6 : w3.heap.size = b6 at h6 n36 n46 hl6 ⊢
    have H6 := Lib.hid h6
    clear h6 H3 H4 G3 hW hb6
    clear w3
    go_loopw [7] (fun i wr => ∃ k : Nat, k ≤ n ∧ i = .int .i64 k ∧ wr.heap[b3]? = some (.cells #[.int .i64 a, .int .i64 c] 23 (0, 0)) ∧ wr.heap[b4]? = some (.cells #[.int .i64 d, .int .i64 e] 23 (0, 0)) ∧
      (∃ t0 t1 t2 t3 : Bool, wr.heap[b6]? = some (.cells #[.bool t0, .bool t1, .bool t2, .bool t3] 44 (0, 0)) ∧ t0 = ((l.take k).any fun p => decide (p.1 = a)) ∧ t1 = ((l.take k).any fun p => decide (p.1 = d)) ∧
        t2 = ((l.take k).any fun p => decide (p.2 = c)) ∧ t3 = ((l.take k).any fun p => decide (p.2 = e))) ∧ Grows w wr) (fun i _ => n - (intOf i).toNat)
    case atStart => exact ⟨0, Nat.zero_le _, rfl, H3'.out, H4'.out, ⟨false, false, false, false, H6.out, rfl, rfl, rfl, rfl⟩, G3'.out⟩
    case round =>
      obtain ⟨k, hk, rfl, h3, h4, ⟨t0, t1, t2, t3, h6, q0, q1, q2, q3⟩, hg⟩ := hrel
      clear H3' H4' H6 G3'
      clear W
      obtain ⟨wr, rfl⟩ : ∃ w1 : World, w1 = wr := ⟨_, rfl⟩
      have hsz := hg.size
      obtain ⟨c1, c2, f1, f2⟩ := cells2 h3
      obtain ⟨c3, c4, f3, f4⟩ := cells2 h4
      obtain ⟨c5, c6, c7, c8, f5, f6, f7, f8⟩ := cells4 h6
      have hu3 : b3 < wr.heap.size := (Array.getElem?_eq_some_iff.1 h3).1
      have hu4 : b4 < wr.heap.size := (Array.getElem?_eq_some_iff.1 h4).1
      have hu6 : b6 < wr.heap.size := (Array.getElem?_eq_some_iff.1 h6).1
      have Hg := Lib.hid hg
      have H3 := Lib.hid h3
      have H4 := Lib.hid h4
      have H6 := Lib.hid h6
      by_cases hlt : k < n
      · have Q0 := Lib.hid (any_succ l (fun p => decide (p.1 = a)) k (by have := Hn.out; omega))
        have Q1 := Lib.hid (any_succ l (fun p => decide (p.1 = d)) k (by have := Hn.out; omega))
        have Q2 := Lib.hid (any_succ l (fun p => decide (p.2 = c)) k (by have := Hn.out; omega))
        have Q3 := Lib.hid (any_succ l (fun p => decide (p.2 = e)) k (by have := Hn.out; omega))
        obtain ⟨i1, i2, i3, i4⟩ := HB.out.all k (by have := Hn.out; omega)
        obtain ⟨e1, e2⟩ := Hc.out k hlt
        rw [← Below.cell hg (p := ⟨b, off + k * 2, none⟩) hb] at e1
        rw [← Below.cell hg (p := ⟨b, off + k * 2 + 1, none⟩) hb] at e2
        generalize l.getD k (0, 0) = z at e1 e2 Q0 Q1 Q2 Q3 i1 i2 i3 i4
        obtain ⟨x, y⟩ := z
        simp only at e1 e2 i1 i2 i3 i4
        have P0 := Lib.hid q0
        have P1 := Lib.hid q1
        have P2 := Lib.hid q2
        have P3 := Lib.hid q3
        clear h3 h4 h6 hg q0 q1 q2 q3
        go_wp2
        all_goals (
          refine ⟨⟨k + 1, hlt, by simp, ?_, ?_, ⟨_, _, _, _, (Below.heap_alloc _ _ _ (by simp; omega)).trans (set4 H6.out), ?_, ?_, ?_, ?_⟩, ?_⟩, by simp only [intOf]; omega⟩
          · rw [Below.heap_alloc _ _ _ (by simp; omega), Below.heap_setCell _ _ _ _ n36, Below.heap_setCell _ _ _ _ n36, Below.heap_setCell _ _ _ _ n36, Below.heap_setCell _ _ _ _ n36]
            exact H3.out
          · rw [Below.heap_alloc _ _ _ (by simp; omega), Below.heap_setCell _ _ _ _ n46, Below.heap_setCell _ _ _ _ n46, Below.heap_setCell _ _ _ _ n46, Below.heap_setCell _ _ _ _ n46]
            exact H4.out
          · rw [Q0.out, ← P0.out]
            first
              | (rw [show t0 = true from ‹_›]; rfl)
              | (rw [Bool.eq_false_iff.2 ‹¬t0 = true›]; rfl)
              | (rw [Bool.eq_false_iff.2 ‹¬t0 = true›, Bool.eq_iff_iff]; simp)
          · rw [Q1.out, ← P1.out]
            first
              | (rw [show t1 = true from ‹_›]; rfl)
              | (rw [Bool.eq_false_iff.2 ‹¬t1 = true›]; rfl)
              | (rw [Bool.eq_false_iff.2 ‹¬t1 = true›, Bool.eq_iff_iff]; simp)
          · rw [Q2.out, ← P2.out]
            first
              | (rw [show t2 = true from ‹_›]; rfl)
              | (rw [Bool.eq_false_iff.2 ‹¬t2 = true›]; rfl)
              | (rw [Bool.eq_false_iff.2 ‹¬t2 = true›, Bool.eq_iff_iff]; simp)
          · rw [Q3.out, ← P3.out]
            first
              | (rw [show t3 = true from ‹_›]; rfl)
              | (rw [Bool.eq_false_iff.2 ‹¬t3 = true›]; rfl)
              | (rw [Bool.eq_false_iff.2 ‹¬t3 = true›, Bool.eq_iff_iff]; simp)
          · exact ((((Hg.out.st hl6 _).st hl6 _).st hl6 _).st hl6 _).al _)
      · have hkn : k = n := by omega
        subst hkn
        clear h3 h4 h6
        rw [List.take_of_length_le (by rw [Hn.out]; exact Nat.le_refl _)] at q0 q1 q2 q3
        rw [HB.out.t0] at q0
        rw [HB.out.t1] at q1
        rw [HB.out.t2] at q2
        rw [HB.out.t3] at q3
        subst q0 q1 q2 q3
        clear hg
        go_wp2_with fail
        refine (kn_any _).mono ?_
        rintro _ w4 ⟨rfl, hg4⟩
        obtain ⟨c5, c6, c7, c8, f5, f6, f7, f8⟩ := cells4 (hg4.block H6.out)
        have G4 := Lib.hid (Hg.out.trans hg4)
        clear hg4
        go_wp2
        rw [eq44]
        simp only [Result.andThen_ok]
        go_wp2
        go_ret
        exact ⟨rfl, G4.out⟩


set_option maxRecDepth 100000 in
set_option maxHeartbeats 4000000 in
theorem law_boxes_posB (l : List (Int × Int)) (b off n cap : Nat) (w : World) (hn : (50 : Int) < n) (hm0 : 0 < 50) (hnc : n ≤ cap) (hcap : cap ≤ 9223372036854775807) (Hn : Hid (l.length = 50)) (hb : b < w.heap.size)
    (Hc : Hid (∀ i, i < 50 → w.cell? ⟨b, off + i * 2, none⟩ = some (.int .i64 (l.getD i (0, 0)).1) ∧ w.cell? ⟨b, off + i * 2 + 1, none⟩ = some (.int .i64 (l.getD i (0, 0)).2))) :
    Calls Try.prog 5 #[.slice (some ⟨b, off, none⟩) n cap] w (Ret (.bool true) w) := by
  have hp : Hid (PtsAt w (.slice (some ⟨b, off, none⟩) 50 cap) l) := Lib.hid ⟨by have := Hn.out; omega, .inr ⟨b, off, cap, by rw [Hn.out], hb, by rw [Hn.out]; exact Hc.out⟩⟩
  have hne : Hid (l ≠ []) := Lib.hid fun h => by have := Hn.out; rw [h] at this; simp at this <;> omega
  cases hr : rightB l with
  | false =>
    have hV : boxV l = box3v 0 0 0 0 false := by simp [boxV, hr]
    have HV := Lib.hid hV
    have Hr := Lib.hid hr
    clear hV hr
    go_enter Try.func5, Try.ntmps5
    go_wp2_with fail
    refine (box_any _ l _ hp.out).mono ?_
    rw [HV.out]
    rintro e w1 ⟨rfl, hg⟩
    have G1 := Lib.hid hg
    clear hg
    go_wp2_with fail
    have G2 := Lib.hid ((G1.out.al (.cells #[.int .i64 0, .int .i64 0] 23)).al (.cells #[.int .i64 0, .int .i64 0] 23))
    refine (ofs_any _ l _ (hp.out.grows G2.out) (by have := Hn.out; omega)).mono ?_
    rintro e w2 ⟨u, rfl, hu, hg2⟩
    have Hu := Lib.hid hu
    have Hg2 := Lib.hid hg2
    clear hu hg2
    go_wp2_with fail
    refine (all_any u l _ Hu.out).mono ?_
    rw [Hr.out]
    rintro e w3 ⟨rfl, hg3⟩
    have G3 := Lib.hid (Hg2.out.trans hg3)
    clear hg3
    go_wp2_with fail
    refine (kn_any _).mono ?_
    rintro e w4 ⟨rfl, hg4⟩
    obtain ⟨c1, c2, c3, c4⟩ := box2 (G3.out.trans hg4)
    have G4 := Lib.hid (G2.out.trans (G3.out.trans hg4))
    clear hg4
    go_wp2
    go_ret
    exact ⟨rfl, G4.out⟩
  | true =>
    obtain ⟨a, c, d, e, hV, hB⟩ := box_yes l hne.out hr
    have HV := Lib.hid hV
    have HB := Lib.hid hB
    have Hr := Lib.hid hr
    clear hV hr hB
    go_enter Try.func5, Try.ntmps5
    go_wp2_with fail
    refine (box_any _ l _ hp.out).mono ?_
    rw [HV.out]
    rintro _ w1 ⟨rfl, hg⟩
    have G1 := Lib.hid hg
    clear hg
    go_wp2_with fail
    have G2 := Lib.hid ((G1.out.al (.cells #[.int .i64 a, .int .i64 c] 23)).al (.cells #[.int .i64 d, .int .i64 e] 23))
    refine (ofs_any _ l _ (hp.out.grows G2.out) (by have := Hn.out; omega)).mono ?_
    rintro _ w2 ⟨u, rfl, hu, hg2⟩
    have Hu := Lib.hid hu
    have Hg2 := Lib.hid hg2
    clear hu hg2
    go_wp2_with fail
    refine (all_any u l _ Hu.out).mono ?_
    rw [Hr.out]
    rintro _ w3 ⟨rfl, hg3⟩
    have hG3 := Hg2.out.trans hg3
    obtain ⟨h3, h4⟩ := box2h hG3
    have G3 := Lib.hid (G2.out.trans hG3)
    have hs := G1.out.size
    generalize hb3 : w1.heap.size = b3 at h3 h4 hs ⊢
    generalize hb4 : b3 + 1 = b4 at h4 ⊢
    have n34 : ¬ b3 = b4 := by omega
    have n43 : ¬ b4 = b3 := by omega
    have hl4 : w.heap.size ≤ b4 := by omega
    have H3 := Lib.hid h3
    have H4 := Lib.hid h4
    clear hg3 hG3 h3 h4 G2 Hg2 G1 hb3 hb4 Hu hp hne HV Hr
    go_wp2
    have h6 := heap_new w3 (.cells #[.bool false, .bool false, .bool false, .bool false] 44) _ rfl
    have H3' := Lib.hid (Grows.block (Grows.alloc w3 (.cells #[.bool false, .bool false, .bool false, .bool false] 44)) H3.out)
    have H4' := Lib.hid (Grows.block (Grows.alloc w3 (.cells #[.bool false, .bool false, .bool false, .bool false] 44)) H4.out)
    have G3' := Lib.hid (G3.out.al (.cells #[.bool false, .bool false, .bool false, .bool false] 44))
    have n36 : ¬ b3 = w3.heap.size := fun h => by have := (Array.getElem?_eq_some_iff.1 H3.out).1; omega
    have n46 : ¬ b4 = w3.heap.size := fun h => by have := (Array.getElem?_eq_some_iff.1 H4.out).1; omega
    have hl6 : w.heap.size ≤ w3.heap.size := G3.out.size
    generalize hW : w3.alloc (.cells #[.bool false, .bool false, .bool false, .bool false] 44) = W at h6 H3' H4' G3' ⊢
    generalize hb6 : w3.heap.size = b6 at h6 n36 n46 hl6 ⊢
    have H6 := Lib.hid h6
    clear h6 H3 H4 G3 hW hb6
    clear w3
    go_loopw [7] (fun i wr => ∃ k : Nat, k ≤ 50 ∧ i = .int .i64 k ∧ wr.heap[b3]? = some (.cells #[.int .i64 a, .int .i64 c] 23 (0, 0)) ∧ wr.heap[b4]? = some (.cells #[.int .i64 d, .int .i64 e] 23 (0, 0)) ∧
      (∃ t0 t1 t2 t3 : Bool, wr.heap[b6]? = some (.cells #[.bool t0, .bool t1, .bool t2, .bool t3] 44 (0, 0)) ∧ t0 = ((l.take k).any fun p => decide (p.1 = a)) ∧ t1 = ((l.take k).any fun p => decide (p.1 = d)) ∧
        t2 = ((l.take k).any fun p => decide (p.2 = c)) ∧ t3 = ((l.take k).any fun p => decide (p.2 = e))) ∧ Grows w wr) (fun i _ => 50 - (intOf i).toNat)
    case atStart => exact ⟨0, Nat.zero_le _, rfl, H3'.out, H4'.out, ⟨false, false, false, false, H6.out, rfl, rfl, rfl, rfl⟩, G3'.out⟩
    case round =>
      obtain ⟨k, hk, rfl, h3, h4, ⟨t0, t1, t2, t3, h6, q0, q1, q2, q3⟩, hg⟩ := hrel
      clear H3' H4' H6 G3'
      clear W
      obtain ⟨wr, rfl⟩ : ∃ w1 : World, w1 = wr := ⟨_, rfl⟩
      have hsz := hg.size
      obtain ⟨c1, c2, f1, f2⟩ := cells2 h3
      obtain ⟨c3, c4, f3, f4⟩ := cells2 h4
      obtain ⟨c5, c6, c7, c8, f5, f6, f7, f8⟩ := cells4 h6
      have hu3 : b3 < wr.heap.size := (Array.getElem?_eq_some_iff.1 h3).1
      have hu4 : b4 < wr.heap.size := (Array.getElem?_eq_some_iff.1 h4).1
      have hu6 : b6 < wr.heap.size := (Array.getElem?_eq_some_iff.1 h6).1
      have Hg := Lib.hid hg
      have H3 := Lib.hid h3
      have H4 := Lib.hid h4
      have H6 := Lib.hid h6
      by_cases hlt : k < 50
      · have Q0 := Lib.hid (any_succ l (fun p => decide (p.1 = a)) k (by have := Hn.out; omega))
        have Q1 := Lib.hid (any_succ l (fun p => decide (p.1 = d)) k (by have := Hn.out; omega))
        have Q2 := Lib.hid (any_succ l (fun p => decide (p.2 = c)) k (by have := Hn.out; omega))
        have Q3 := Lib.hid (any_succ l (fun p => decide (p.2 = e)) k (by have := Hn.out; omega))
        obtain ⟨i1, i2, i3, i4⟩ := HB.out.all k (by have := Hn.out; omega)
        obtain ⟨e1, e2⟩ := Hc.out k hlt
        rw [← Below.cell hg (p := ⟨b, off + k * 2, none⟩) hb] at e1
        rw [← Below.cell hg (p := ⟨b, off + k * 2 + 1, none⟩) hb] at e2
        generalize l.getD k (0, 0) = z at e1 e2 Q0 Q1 Q2 Q3 i1 i2 i3 i4
        obtain ⟨x, y⟩ := z
        simp only at e1 e2 i1 i2 i3 i4
        have P0 := Lib.hid q0
        have P1 := Lib.hid q1
        have P2 := Lib.hid q2
        have P3 := Lib.hid q3
        clear h3 h4 h6 hg q0 q1 q2 q3
        go_wp2
        all_goals (
          refine ⟨⟨k + 1, hlt, by simp, ?_, ?_, ⟨_, _, _, _, (Below.heap_alloc _ _ _ (by simp; omega)).trans (set4 H6.out), ?_, ?_, ?_, ?_⟩, ?_⟩, by simp only [intOf]; omega⟩
          · rw [Below.heap_alloc _ _ _ (by simp; omega), Below.heap_setCell _ _ _ _ n36, Below.heap_setCell _ _ _ _ n36, Below.heap_setCell _ _ _ _ n36, Below.heap_setCell _ _ _ _ n36]
            exact H3.out
          · rw [Below.heap_alloc _ _ _ (by simp; omega), Below.heap_setCell _ _ _ _ n46, Below.heap_setCell _ _ _ _ n46, Below.heap_setCell _ _ _ _ n46, Below.heap_setCell _ _ _ _ n46]
            exact H4.out
          · rw [Q0.out, ← P0.out]
            first
              | (rw [show t0 = true from ‹_›]; rfl)
              | (rw [Bool.eq_false_iff.2 ‹¬t0 = true›]; rfl)
              | (rw [Bool.eq_false_iff.2 ‹¬t0 = true›, Bool.eq_iff_iff]; simp)
          · rw [Q1.out, ← P1.out]
            first
              | (rw [show t1 = true from ‹_›]; rfl)
              | (rw [Bool.eq_false_iff.2 ‹¬t1 = true›]; rfl)
              | (rw [Bool.eq_false_iff.2 ‹¬t1 = true›, Bool.eq_iff_iff]; simp)
          · rw [Q2.out, ← P2.out]
            first
              | (rw [show t2 = true from ‹_›]; rfl)
              | (rw [Bool.eq_false_iff.2 ‹¬t2 = true›]; rfl)
              | (rw [Bool.eq_false_iff.2 ‹¬t2 = true›, Bool.eq_iff_iff]; simp)
          · rw [Q3.out, ← P3.out]
            first
              | (rw [show t3 = true from ‹_›]; rfl)
              | (rw [Bool.eq_false_iff.2 ‹¬t3 = true›]; rfl)
              | (rw [Bool.eq_false_iff.2 ‹¬t3 = true›, Bool.eq_iff_iff]; simp)
          · exact ((((Hg.out.st hl6 _).st hl6 _).st hl6 _).st hl6 _).al _)
      · have hkn : k = 50 := by omega
        subst hkn
        clear h3 h4 h6
        rw [List.take_of_length_le (by rw [Hn.out]; exact Nat.le_refl _)] at q0 q1 q2 q3
        rw [HB.out.t0] at q0
        rw [HB.out.t1] at q1
        rw [HB.out.t2] at q2
        rw [HB.out.t3] at q3
        subst q0 q1 q2 q3
        clear hg
        go_wp2_with fail
        refine (kn_any _).mono ?_
        rintro _ w4 ⟨rfl, hg4⟩
        obtain ⟨c5, c6, c7, c8, f5, f6, f7, f8⟩ := cells4 (hg4.block H6.out)
        have G4 := Lib.hid (Hg.out.trans hg4)
        clear hg4
        go_wp2
        rw [eq44]
        simp only [Result.andThen_ok]
        go_wp2
        go_ret
        exact ⟨rfl, G4.out⟩

end Go.Proofs.Ytkedcaplbdhmeaa
