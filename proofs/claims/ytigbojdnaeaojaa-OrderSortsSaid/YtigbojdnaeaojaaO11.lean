/-
  Layer 4: the document's answer: one more in a rising list; where one is.
-/
import Derived.Test.YtigbojdnaeaojaaO8
namespace Go.Proofs.Ytigbojdnaeaojaa
open Go.RowKit Go.Tab

abbrev ltI (x y : Int) : Bool := decide (x < y)
theorem weakI : Weak ltI := ⟨fun x y z h1 h2 => by simp at *; omega, fun x y z h => by simp at *; omega, fun x => by simp⟩
theorem Up.rises {l : List Int} (h : Up l) : Rises ltI l := h.imp fun hpq => decide_eq_false (Int.not_lt.2 hpq)
theorem Rises.up {l : List Int} (h : Rises ltI l) : Up l := h.imp fun hpq => Int.not_lt.1 (of_decide_eq_false hpq)
theorem put_len (l : List Int) (n : Int) : (mergeF ltI l [n]).length = l.length + 1 := by rw [mergeF_length]; rfl

set_option maxRecDepth 100000 in
set_option maxHeartbeats 2000000 in
theorem put_nil (a : Option Addr) (cap : Nat) (n : Int) (w : World) (hz : a = none → cap = 0) : Calls Try.prog 19 #[.slice a 0 cap, iv n] w (RetInts (mergeF ltI [] [n]) w) := by
  obtain ⟨i0, hi0, hi1, hi2, hi3⟩ := info_parts infoI
  obtain ⟨l, hl⟩ : ∃ l : List Int, l = [] := ⟨[], rfl⟩
  have HK : Hid (placeF ltI n l = 0) := Lib.hid (by rw [hl]; rfl)
  suffices key : Calls Try.prog 19 #[.slice a 0 cap, iv n] w (RetInts (mergeF ltI l [n]) w) by rw [hl] at key; exact key
  have HL := Lib.hid hl
  have hll : l.length ≤ 1000000 := by rw [hl]; decide
  clear hl
  cases a with
  | none =>
    rw [hz rfl]
    clear hz
    go_enter Try.func19, Try.ntmps19
    go_wp2
    refine wp_loop_rounds 1 ?_; rw [rounds_succ]
    have G : Hid (Grows w w) := Lib.hid (Grows.refl w)
    have SZ : Hid ((l.take 0).length ≤ 2000000 ∧ (l.drop 0).length ≤ 2000000) := Lib.hid (by rw [List.length_take, List.length_drop]; omega)
    have GS := G.out.size
    go_wp2_with (at_builtin; first | (refine append_ints rfl _ _ 24 rfl w.heap.size 3 i0 (.int .i64 0) 8 Try.underlying24 hi0 hi1 hi2 hi3 rfl (.slice (some ⟨w.heap.size, 0, none⟩) 0 0) 0 [] rfl (ownsRow_base (own_empty (by decide)) GS) (l.take 0) _ rfl (by rw [HL.out]; exact ints_nil _) (by have := SZ.out; unfold maxLen; omega) (by have := SZ.out; omega) (by simp only [World.size_alloc]; omega) ?_; intro v3 w3 hown hgr; have O3 := Lib.hid hown; have G3 := Lib.hid (hgr w (G.out.al _) (Nat.le_refl _)); clear hown hgr) | (refine append_ints rfl _ _ 24 rfl w.heap.size 3 i0 (.int .i64 0) 8 Try.underlying24 hi0 hi1 hi2 hi3 rfl v3 _ _ rfl (ownsRow_grows O3.out (Grows.alloc _ _)) [n] _ rfl (ints_block (heap_new _ (.cells #[iv n] 3) _ rfl) rfl (by simp)) (by have := SZ.out; simp only [List.length_singleton]; unfold maxLen; omega) (by have := SZ.out; simp only [List.length_singleton]; omega) (by have := G3.out.size; simp only [World.size_alloc]; omega) ?_; intro v4 w4 hown hgr; have O4 := Lib.hid hown; have G4 := Lib.hid (hgr w (G3.out.al _) (Nat.le_refl _)); clear hown hgr) | (refine append_ints rfl _ _ 24 rfl w.heap.size 3 i0 (.int .i64 0) 8 Try.underlying24 hi0 hi1 hi2 hi3 rfl v4 _ _ rfl O4.out (l.drop 0) _ rfl (by rw [HL.out]; exact ints_nil _) (by have := SZ.out; simp only [List.length_singleton]; unfold maxLen; omega) (by have := SZ.out; simp only [List.length_singleton]; omega) G4.out.size ?_; intro v5 w5 hown hgr; have O5 := Lib.hid hown; have G5 := Lib.hid (hgr w G4.out (Nat.le_refl _)); clear hown hgr))
    go_ret
    refine ⟨_, rfl, ?_, G5.out⟩
    have := O5.out
    rw [mergeF_one, HK.out]
    simp only [List.nil_append, List.append_assoc, ← List.map_append] at this
    have e : (l.take 0 ++ n :: l.drop 0).length = 0 + (l.take 0).length + [n].length + (l.drop 0).length := by simp only [List.length_append, List.length_cons, List.length_nil]; omega
    rw [e]
    simpa using this
  | some p =>
    clear hz
    go_enter Try.func19, Try.ntmps19
    go_wp2
    refine wp_loop_rounds 1 ?_; rw [rounds_succ]
    have G : Hid (Grows w w) := Lib.hid (Grows.refl w)
    have SZ : Hid ((l.take 0).length ≤ 2000000 ∧ (l.drop 0).length ≤ 2000000) := Lib.hid (by rw [List.length_take, List.length_drop]; omega)
    have GS := G.out.size
    go_wp2_with (at_builtin; first | (refine append_ints rfl _ _ 24 rfl w.heap.size 3 i0 (.int .i64 0) 8 Try.underlying24 hi0 hi1 hi2 hi3 rfl (.slice (some ⟨w.heap.size, 0, none⟩) 0 0) 0 [] rfl (ownsRow_base (own_empty (by decide)) GS) (l.take 0) _ rfl (by rw [HL.out]; exact ⟨Nat.zero_le _, .inl ⟨⟨_, _, rfl, fun h => by cases h⟩, rfl⟩⟩) (by have := SZ.out; unfold maxLen; omega) (by have := SZ.out; omega) (by simp only [World.size_alloc]; omega) ?_; intro v3 w3 hown hgr; have O3 := Lib.hid hown; have G3 := Lib.hid (hgr w (G.out.al _) (Nat.le_refl _)); clear hown hgr) | (refine append_ints rfl _ _ 24 rfl w.heap.size 3 i0 (.int .i64 0) 8 Try.underlying24 hi0 hi1 hi2 hi3 rfl v3 _ _ rfl (ownsRow_grows O3.out (Grows.alloc _ _)) [n] _ rfl (ints_block (heap_new _ (.cells #[iv n] 3) _ rfl) rfl (by simp)) (by have := SZ.out; simp only [List.length_singleton]; unfold maxLen; omega) (by have := SZ.out; simp only [List.length_singleton]; omega) (by have := G3.out.size; simp only [World.size_alloc]; omega) ?_; intro v4 w4 hown hgr; have O4 := Lib.hid hown; have G4 := Lib.hid (hgr w (G3.out.al _) (Nat.le_refl _)); clear hown hgr) | (refine append_ints rfl _ _ 24 rfl w.heap.size 3 i0 (.int .i64 0) 8 Try.underlying24 hi0 hi1 hi2 hi3 rfl v4 _ _ rfl O4.out (l.drop 0) _ rfl (by rw [HL.out]; exact ⟨Nat.zero_le _, .inl ⟨⟨_, _, rfl, fun h => by cases h⟩, rfl⟩⟩) (by have := SZ.out; simp only [List.length_singleton]; unfold maxLen; omega) (by have := SZ.out; simp only [List.length_singleton]; omega) G4.out.size ?_; intro v5 w5 hown hgr; have O5 := Lib.hid hown; have G5 := Lib.hid (hgr w G4.out (Nat.le_refl _)); clear hown hgr))
    go_ret
    refine ⟨_, rfl, ?_, G5.out⟩
    have := O5.out
    rw [mergeF_one, HK.out]
    simp only [List.nil_append, List.append_assoc, ← List.map_append] at this
    have e : (l.take 0 ++ n :: l.drop 0).length = 0 + (l.take 0).length + [n].length + (l.drop 0).length := by simp only [List.length_append, List.length_cons, List.length_nil]; omega
    rw [e]
    simpa using this

set_option maxRecDepth 100000 in
set_option maxHeartbeats 2000000 in
theorem put_some (b off cap : Nat) (l : List Int) (n : Int) (w : World) (hp : IntsAt w (.slice (some ⟨b, off, none⟩) l.length cap) l) (hll : l.length ≤ 1000000) (hu : Up l) (hcp : l.length ≤ cap) :
    Calls Try.prog 19 #[.slice (some ⟨b, off, none⟩) l.length cap, iv n] w (RetInts (mergeF ltI l [n]) w) := by
  obtain ⟨i0, hi0, hi1, hi2, hi3⟩ := info_parts infoI
  have HP := Lib.hid (fun w' (hg : Grows w w') => hp.grows hg)
  have HU := Lib.hid hu
  clear hp hu
  generalize hlen : l.length = len at hll hcp HP ⊢
  have HLen := Lib.hid hlen
  clear hlen
  go_enter Try.func19, Try.ntmps19
  go_wp2
  go_loopw [5] (fun i wr => ∃ k : Nat, i = iv k ∧ k ≤ len ∧ (∀ i, k ≤ i → i < len → n < l.getD i 0) ∧ Grows w wr) (fun i _ => (intOf i).toNat)
  case atStart => exact ⟨len, rfl, Nat.le_refl _, fun i h1 h2 => by omega, Grows.refl _⟩
  case round =>
    obtain ⟨k, rfl, hk, hb, hg⟩ := hrel
    have HB := Lib.hid hb
    have G := Lib.hid hg
    clear hb hg
    by_cases hmore : 0 < k ∧ n < l.getD (k - 1) 0
    · obtain ⟨h0, h1⟩ := hmore
      obtain ⟨k, rfl⟩ : ∃ j, k = j + 1 := ⟨k - 1, by omega⟩
      rw [Nat.add_sub_cancel] at h1
      have c1 := (HP.out _ G.out).at_cell (i := k) (by rw [HLen.out]; omega)
      have HB2 : Hid (∀ i, k ≤ i → i < len → n < l.getD i 0) := Lib.hid fun i hki hil => by
        by_cases he : i = k
        · subst he; exact h1
        · exact HB.out i (by omega) hil
      generalize l.getD k 0 = x at c1 h1
      clear HB
      have e1 : ((k + 1 : Nat) : Int) - 1 = (k : Int) := by omega
      go_wp2
      refine ⟨⟨k, by simp, by omega, HB2.out, G.out⟩, by simp only [intOf]; omega⟩
    · have HK : Hid (placeF ltI n l = k) := Lib.hid (placeF_back weakI n l HU.out.rises k (by rw [HLen.out]; exact hk) (fun i hi hki => by
        have := HB.out i hki (by rw [← HLen.out]; exact hi)
        rw [List.getD_eq_getElem?_getD, List.getElem?_eq_getElem hi] at this
        exact decide_eq_true this) (fun h => by
        by_cases h0 : k = 0
        · exact .inl h0
        · right
          have h2 : ¬ n < l.getD (k - 1) 0 := fun h3 => hmore ⟨by omega, h3⟩
          rw [List.getD_eq_getElem?_getD, List.getElem?_eq_getElem h] at h2
          exact decide_eq_false h2))
      clear HB
      have hll : l.length ≤ 1000000 := by rw [HLen.out]; exact hll
      have H1 : Hid (∀ w', Grows w w' → IntsAt w' (.slice (some ⟨b, off, none⟩) k cap) (l.take k)) := Lib.hid fun w' hg => (HP.out w' hg).take hk
      have hkc : k ≤ cap := by omega
      by_cases hkcap : cap = k
      · have H2 : Hid (∀ w', Grows w w' → IntsAt w' (.slice (some ⟨b, off, none⟩) 0 0) (l.drop k)) := Lib.hid fun w' hg => by
          rw [List.drop_eq_nil_iff.2 (by rw [HLen.out]; omega)]
          exact ⟨Nat.zero_le _, .inl ⟨⟨_, _, rfl, fun h => by cases h⟩, rfl⟩⟩
        have hlk : len = k := by omega
        subst hlk hkcap
        by_cases h0 : cap = 0
        · subst h0
          have SZ : Hid ((l.take 0).length ≤ 2000000 ∧ (l.drop 0).length ≤ 2000000) := Lib.hid (by rw [List.length_take, List.length_drop]; omega)
          have GS := G.out.size
          go_wp2_with (at_builtin; first | (refine append_ints rfl _ _ 24 rfl w.heap.size 3 i0 (.int .i64 0) 8 Try.underlying24 hi0 hi1 hi2 hi3 rfl (.slice (some ⟨wr.heap.size, 0, none⟩) 0 0) 0 [] rfl (ownsRow_base (own_empty (by decide)) GS) (l.take 0) _ rfl (H1.out _ (G.out.al _)) (by have := SZ.out; unfold maxLen; omega) (by have := SZ.out; omega) (by simp only [World.size_alloc]; omega) ?_; intro v3 w3 hown hgr; have O3 := Lib.hid hown; have G3 := Lib.hid (hgr w (G.out.al _) (Nat.le_refl _)); clear hown hgr) | (refine append_ints rfl _ _ 24 rfl w.heap.size 3 i0 (.int .i64 0) 8 Try.underlying24 hi0 hi1 hi2 hi3 rfl v3 _ _ rfl (ownsRow_grows O3.out (Grows.alloc _ _)) [n] _ rfl (ints_block (heap_new _ (.cells #[iv n] 3) _ rfl) rfl (by simp)) (by have := SZ.out; simp only [List.length_singleton]; unfold maxLen; omega) (by have := SZ.out; simp only [List.length_singleton]; omega) (by have := G3.out.size; simp only [World.size_alloc]; omega) ?_; intro v4 w4 hown hgr; have O4 := Lib.hid hown; have G4 := Lib.hid (hgr w (G3.out.al _) (Nat.le_refl _)); clear hown hgr) | (refine append_ints rfl _ _ 24 rfl w.heap.size 3 i0 (.int .i64 0) 8 Try.underlying24 hi0 hi1 hi2 hi3 rfl v4 _ _ rfl O4.out (l.drop 0) _ rfl (H2.out _ G4.out) (by have := SZ.out; simp only [List.length_singleton]; unfold maxLen; omega) (by have := SZ.out; simp only [List.length_singleton]; omega) G4.out.size ?_; intro v5 w5 hown hgr; have O5 := Lib.hid hown; have G5 := Lib.hid (hgr w G4.out (Nat.le_refl _)); clear hown hgr))
          go_ret
          refine ⟨_, rfl, ?_, G5.out⟩
          have := O5.out
          rw [mergeF_one, HK.out]
          simp only [List.nil_append, List.append_assoc, ← List.map_append] at this
          have e : (l.take 0 ++ n :: l.drop 0).length = 0 + (l.take 0).length + [n].length + (l.drop 0).length := by simp only [List.length_append, List.length_cons, List.length_nil]; omega
          rw [e]
          simpa using this
        · obtain ⟨j, rfl⟩ : ∃ j, cap = j + 1 := ⟨cap - 1, by omega⟩
          have hx : ¬ n < l.getD j 0 := fun h => hmore ⟨by omega, h⟩
          have c1 := (HP.out _ G.out).at_cell (i := j) (by rw [HLen.out]; omega)
          generalize l.getD j 0 = x at c1 hx
          have e1 : ((j + 1 : Nat) : Int) - 1 = (j : Int) := by omega
          clear hmore
          have SZ : Hid ((l.take (j + 1)).length ≤ 2000000 ∧ (l.drop (j + 1)).length ≤ 2000000) := Lib.hid (by rw [List.length_take, List.length_drop]; omega)
          have GS := G.out.size
          go_wp2_with (at_builtin; first | (refine append_ints rfl _ _ 24 rfl w.heap.size 3 i0 (.int .i64 0) 8 Try.underlying24 hi0 hi1 hi2 hi3 rfl (.slice (some ⟨wr.heap.size, 0, none⟩) 0 0) 0 [] rfl (ownsRow_base (own_empty (by decide)) GS) (l.take (j + 1)) _ rfl (H1.out _ (G.out.al _)) (by have := SZ.out; unfold maxLen; omega) (by have := SZ.out; omega) (by simp only [World.size_alloc]; omega) ?_; intro v3 w3 hown hgr; have O3 := Lib.hid hown; have G3 := Lib.hid (hgr w (G.out.al _) (Nat.le_refl _)); clear hown hgr) | (refine append_ints rfl _ _ 24 rfl w.heap.size 3 i0 (.int .i64 0) 8 Try.underlying24 hi0 hi1 hi2 hi3 rfl v3 _ _ rfl (ownsRow_grows O3.out (Grows.alloc _ _)) [n] _ rfl (ints_block (heap_new _ (.cells #[iv n] 3) _ rfl) rfl (by simp)) (by have := SZ.out; simp only [List.length_singleton]; unfold maxLen; omega) (by have := SZ.out; simp only [List.length_singleton]; omega) (by have := G3.out.size; simp only [World.size_alloc]; omega) ?_; intro v4 w4 hown hgr; have O4 := Lib.hid hown; have G4 := Lib.hid (hgr w (G3.out.al _) (Nat.le_refl _)); clear hown hgr) | (refine append_ints rfl _ _ 24 rfl w.heap.size 3 i0 (.int .i64 0) 8 Try.underlying24 hi0 hi1 hi2 hi3 rfl v4 _ _ rfl O4.out (l.drop (j + 1)) _ rfl (H2.out _ G4.out) (by have := SZ.out; simp only [List.length_singleton]; unfold maxLen; omega) (by have := SZ.out; simp only [List.length_singleton]; omega) G4.out.size ?_; intro v5 w5 hown hgr; have O5 := Lib.hid hown; have G5 := Lib.hid (hgr w G4.out (Nat.le_refl _)); clear hown hgr))
          go_ret
          refine ⟨_, rfl, ?_, G5.out⟩
          have := O5.out
          rw [mergeF_one, HK.out]
          simp only [List.nil_append, List.append_assoc, ← List.map_append] at this
          have e : (l.take (j + 1) ++ n :: l.drop (j + 1)).length = 0 + (l.take (j + 1)).length + [n].length + (l.drop (j + 1)).length := by simp only [List.length_append, List.length_cons, List.length_nil]; omega
          rw [e]
          simpa using this
      · have H2 : Hid (∀ w', Grows w w' → IntsAt w' (.slice (some ⟨b, off + k, none⟩) (len - k) (cap - k)) (l.drop k)) := Lib.hid fun w' hg => (HP.out w' hg).drop hk
        by_cases h0 : k = 0
        · subst h0
          have SZ : Hid ((l.take 0).length ≤ 2000000 ∧ (l.drop 0).length ≤ 2000000) := Lib.hid (by rw [List.length_take, List.length_drop]; omega)
          have GS := G.out.size
          go_wp2_with (at_builtin; first | (refine append_ints rfl _ _ 24 rfl w.heap.size 3 i0 (.int .i64 0) 8 Try.underlying24 hi0 hi1 hi2 hi3 rfl (.slice (some ⟨wr.heap.size, 0, none⟩) 0 0) 0 [] rfl (ownsRow_base (own_empty (by decide)) GS) (l.take 0) _ rfl (H1.out _ (G.out.al _)) (by have := SZ.out; unfold maxLen; omega) (by have := SZ.out; omega) (by simp only [World.size_alloc]; omega) ?_; intro v3 w3 hown hgr; have O3 := Lib.hid hown; have G3 := Lib.hid (hgr w (G.out.al _) (Nat.le_refl _)); clear hown hgr) | (refine append_ints rfl _ _ 24 rfl w.heap.size 3 i0 (.int .i64 0) 8 Try.underlying24 hi0 hi1 hi2 hi3 rfl v3 _ _ rfl (ownsRow_grows O3.out (Grows.alloc _ _)) [n] _ rfl (ints_block (heap_new _ (.cells #[iv n] 3) _ rfl) rfl (by simp)) (by have := SZ.out; simp only [List.length_singleton]; unfold maxLen; omega) (by have := SZ.out; simp only [List.length_singleton]; omega) (by have := G3.out.size; simp only [World.size_alloc]; omega) ?_; intro v4 w4 hown hgr; have O4 := Lib.hid hown; have G4 := Lib.hid (hgr w (G3.out.al _) (Nat.le_refl _)); clear hown hgr) | (refine append_ints rfl _ _ 24 rfl w.heap.size 3 i0 (.int .i64 0) 8 Try.underlying24 hi0 hi1 hi2 hi3 rfl v4 _ _ rfl O4.out (l.drop 0) _ rfl (H2.out _ G4.out) (by have := SZ.out; simp only [List.length_singleton]; unfold maxLen; omega) (by have := SZ.out; simp only [List.length_singleton]; omega) G4.out.size ?_; intro v5 w5 hown hgr; have O5 := Lib.hid hown; have G5 := Lib.hid (hgr w G4.out (Nat.le_refl _)); clear hown hgr))
          go_ret
          refine ⟨_, rfl, ?_, G5.out⟩
          have := O5.out
          rw [mergeF_one, HK.out]
          simp only [List.nil_append, List.append_assoc, ← List.map_append] at this
          have e : (l.take 0 ++ n :: l.drop 0).length = 0 + (l.take 0).length + [n].length + (l.drop 0).length := by simp only [List.length_append, List.length_cons, List.length_nil]; omega
          rw [e]
          simpa using this
        · obtain ⟨j, rfl⟩ : ∃ j, k = j + 1 := ⟨k - 1, by omega⟩
          have hx : ¬ n < l.getD j 0 := fun h => hmore ⟨by omega, h⟩
          have c1 := (HP.out _ G.out).at_cell (i := j) (by rw [HLen.out]; omega)
          generalize l.getD j 0 = x at c1 hx
          have e1 : ((j + 1 : Nat) : Int) - 1 = (j : Int) := by omega
          clear hmore
          have SZ : Hid ((l.take (j + 1)).length ≤ 2000000 ∧ (l.drop (j + 1)).length ≤ 2000000) := Lib.hid (by rw [List.length_take, List.length_drop]; omega)
          have GS := G.out.size
          go_wp2_with (at_builtin; first | (refine append_ints rfl _ _ 24 rfl w.heap.size 3 i0 (.int .i64 0) 8 Try.underlying24 hi0 hi1 hi2 hi3 rfl (.slice (some ⟨wr.heap.size, 0, none⟩) 0 0) 0 [] rfl (ownsRow_base (own_empty (by decide)) GS) (l.take (j + 1)) _ rfl (H1.out _ (G.out.al _)) (by have := SZ.out; unfold maxLen; omega) (by have := SZ.out; omega) (by simp only [World.size_alloc]; omega) ?_; intro v3 w3 hown hgr; have O3 := Lib.hid hown; have G3 := Lib.hid (hgr w (G.out.al _) (Nat.le_refl _)); clear hown hgr) | (refine append_ints rfl _ _ 24 rfl w.heap.size 3 i0 (.int .i64 0) 8 Try.underlying24 hi0 hi1 hi2 hi3 rfl v3 _ _ rfl (ownsRow_grows O3.out (Grows.alloc _ _)) [n] _ rfl (ints_block (heap_new _ (.cells #[iv n] 3) _ rfl) rfl (by simp)) (by have := SZ.out; simp only [List.length_singleton]; unfold maxLen; omega) (by have := SZ.out; simp only [List.length_singleton]; omega) (by have := G3.out.size; simp only [World.size_alloc]; omega) ?_; intro v4 w4 hown hgr; have O4 := Lib.hid hown; have G4 := Lib.hid (hgr w (G3.out.al _) (Nat.le_refl _)); clear hown hgr) | (refine append_ints rfl _ _ 24 rfl w.heap.size 3 i0 (.int .i64 0) 8 Try.underlying24 hi0 hi1 hi2 hi3 rfl v4 _ _ rfl O4.out (l.drop (j + 1)) _ rfl (H2.out _ G4.out) (by have := SZ.out; simp only [List.length_singleton]; unfold maxLen; omega) (by have := SZ.out; simp only [List.length_singleton]; omega) G4.out.size ?_; intro v5 w5 hown hgr; have O5 := Lib.hid hown; have G5 := Lib.hid (hgr w G4.out (Nat.le_refl _)); clear hown hgr))
          go_ret
          refine ⟨_, rfl, ?_, G5.out⟩
          have := O5.out
          rw [mergeF_one, HK.out]
          simp only [List.nil_append, List.append_assoc, ← List.map_append] at this
          have e : (l.take (j + 1) ++ n :: l.drop (j + 1)).length = 0 + (l.take (j + 1)).length + [n].length + (l.drop (j + 1)).length := by simp only [List.length_append, List.length_cons, List.length_nil]; omega
          rw [e]
          simpa using this

theorem put_any (v : Value) (l : List Int) (n : Int) (w : World) (hp : IntsAt w v l) (hll : l.length ≤ 1000000) (hu : Up l) :
    Calls Try.prog 19 #[v, iv n] w (RetInts (mergeF ltI l [n]) w) := by
  obtain ⟨a, cap, rfl, hc, hz⟩ := hp.shape
  by_cases h : l = []
  · subst h
    exact put_nil a cap n w hz
  · obtain ⟨b, off, rfl, _, _⟩ := hp.at_ (i := 0) (List.length_pos_iff.2 h)
    exact put_some b off cap l n w hp hll hu hc
end Go.Proofs.Ytigbojdnaeaojaa
