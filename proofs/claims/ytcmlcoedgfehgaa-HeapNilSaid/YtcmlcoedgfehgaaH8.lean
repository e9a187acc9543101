/-
  Layer 5: an entry found.
-/
import Derived.Test.YtcmlcoedgfehgaaH7
namespace Go.Proofs.Ytcmlcoedgfehgaa
open Go.RowKit Go.Tab Go.WideShapes

theorem idxOf_eq (L : List Ent3) (e : Ent3) (i : Nat) (hi : i < L.length) (h1 : L.getD i e0 = e) (h2 : ∀ j, j < i → L.getD j e0 ≠ e) : L.idxOf e = i := by
  induction L generalizing i with
  | nil => cases hi
  | cons p L ih =>
    cases i with
    | zero => have h1 : p = e := h1; rw [List.idxOf_cons, h1]; simp
    | succ i =>
      have h0 : p ≠ e := h2 0 (by omega)
      rw [List.idxOf_cons]
      have hb : (p == e) = false := by simpa using h0
      rw [hb]
      have := ih i (by simpa using hi) h1 (fun j hj => h2 (j + 1) (by omega))
      simp [this]
theorem idxOf_none (L : List Ent3) (e : Ent3) (h2 : ∀ j, j < L.length → L.getD j e0 ≠ e) : L.idxOf e = L.length := by
  induction L with
  | nil => rfl
  | cons p L ih =>
    have h0 : p ≠ e := h2 0 (by simp)
    rw [List.idxOf_cons]
    have hb : (p == e) = false := by simpa using h0
    rw [hb]
    have := ih (fun j hj => h2 (j + 1) (by simpa using hj))
    simp [this]
def findF (L : List Ent3) (e : Ent3) : Int := if L.idxOf e < L.length then (L.idxOf e : Int) else -1

set_option maxRecDepth 100000 in
set_option maxHeartbeats 2000000 in
theorem find_heap {w : World} {hb B : Nat} {v : Value} {L : List Ent3} (h : HeapAt w hb B v L) (e : Ent3) (hn : L.length ≤ 1000) :
    Calls Try.prog 20 #[.pointer (some ⟨hb, 0, none⟩), en e] w (Ret (iv (findF L e)) w) := by
  have H := Lib.hid h
  obtain ⟨a, cap, rfl, _, _⟩ := (h.ents (by omega)).shape
  generalize hm : L.length = m at hn H ⊢
  have HM := Lib.hid hm
  obtain ⟨x, y, z⟩ := e
  clear h hm
  have CB : Hid (∀ wr, Grows (w.alloc (.cells #[.int .i64 x, .int .i64 y, .int .i64 z] 30)) wr → wr.cell? ⟨w.heap.size, 0, none⟩ = some (.int .i64 x) ∧ wr.cell? ⟨w.heap.size, 1, none⟩ = some (.int .i64 y) ∧ wr.cell? ⟨w.heap.size, 2, none⟩ = some (.int .i64 z)) := Lib.hid fun w1 hg1 => by
    obtain ⟨k1, k2, k3, _⟩ := cells3 (hg1.block (heap_new w (.cells #[.int .i64 x, .int .i64 y, .int .i64 z] 30) _ rfl))
    exact ⟨k1, k2, k3⟩
  have H1 := Lib.hid (H.out.grows ((Grows.refl w).al (.cells #[.int .i64 x, .int .i64 y, .int .i64 z] 30)))
  have c0 := H1.out.cell
  go_enter Try.func20, Try.ntmps20
  go_wp2
  clear c0
  go_loopw [12] (fun i wr => ∃ (k : Nat), i = iv k ∧ k ≤ m ∧ (∀ j, j < k → L.getD j e0 ≠ (x, y, z)) ∧ Grows (w.alloc (.cells #[.int .i64 x, .int .i64 y, .int .i64 z] 30)) wr) (fun i _ => m - (intOf i).toNat)
  case atStart => exact ⟨0, rfl, Nat.zero_le _, fun j hj => absurd hj (by omega), Grows.refl _⟩
  case round =>
    obtain ⟨k, rfl, hk, hno, hg⟩ := hrel
    have HN := Lib.hid hno
    have G := Lib.hid hg
    clear hg hno
    by_cases hkm : k < m
    · have HE := Lib.hid (((H.out.grows (((Grows.refl w).al _).trans G.out)).ents (by rw [HM.out]; omega)))
      obtain ⟨b, off, rfl, hb0, x1, x2, x3⟩ := HE.out.at_ (i := k) (by rw [HM.out]; exact hkm)
      obtain ⟨ex, hex⟩ : ∃ ex, ex = L.getD k e0 := ⟨_, rfl⟩
      rw [← hex] at x1 x2 x3
      have HEX := Lib.hid hex
      obtain ⟨xa, xb, xc⟩ := ex
      simp only at x1 x2 x3
      clear hex
      obtain ⟨z1, z2, z3⟩ := CB.out _ (G.out.al (.cells #[.int .i64 xa, .int .i64 xb, .int .i64 xc] 30))
      by_cases heq : (xa, xb, xc) = (x, y, z)
      · have HQ := Lib.hid heq
        obtain ⟨rfl, rfl, rfl⟩ : xa = x ∧ xb = y ∧ xc = z := by simpa using heq
        clear heq
        go_wp2
        go_ret
        refine ⟨?_, (((Grows.refl w).al _).trans G.out).al _⟩
        unfold findF
        rw [idxOf_eq L _ k (by rw [HM.out]; exact hkm) HEX.out.symm HN.out, HM.out, if_pos hkm]
        rfl
      · have hne : ¬ (xa = x ∧ xb = y ∧ xc = z) := fun h => heq (by simp [h.1, h.2.1, h.2.2])
        have HNE := Lib.hid heq
        clear heq
        go_wp2
        all_goals
          refine ⟨⟨k + 1, by simp, by omega, fun j hj => ?_, G.out.al _⟩, by simp only [intOf]; omega⟩
          by_cases hjk : j = k
          · rw [hjk, ← HEX.out]; exact HNE.out
          · exact HN.out j (by omega)
    · have hkm' : k = m := by omega
      subst hkm'
      go_wp2
      go_ret
      refine ⟨?_, ((Grows.refl w).al _).trans G.out⟩
      unfold findF
      rw [idxOf_none L _ (by rw [HM.out]; exact HN.out), if_neg (by omega)]
      rfl

set_option maxHeartbeats 2000000 in
theorem top_heap {w : World} {hb B : Nat} {v : Value} {L : List Ent3} (h : HeapAt w hb B v L) (hn : L.length ≤ 1000) :
    Calls Try.prog 11 #[.pointer (some ⟨hb, 0, none⟩)] w (Ret (.tuple #[en (L.getD 0 e0), .bool (decide (0 < L.length))]) w) := by
  have H := Lib.hid h
  clear h
  go_enter Try.func11, Try.ntmps11
  go_wp2_with fail
  refine (len_heap (H.out.grows ((Grows.refl w).al _)) (by omega)).mono ?_
  rintro _ w1 ⟨rfl, hg⟩
  have HB := hg.block (heap_new _ _ _ rfl)
  obtain ⟨k0, k1, k2, f0, f1, f2⟩ := cells3 HB
  have G := Lib.hid (((Grows.refl w).al _).trans hg)
  have H1 := Lib.hid (H.out.grows G.out)
  have c0 := H1.out.cell
  clear hg
  by_cases hL : L = []
  · subst hL
    have hb2 := set3 (x' := .int .i64 0) (y' := .int .i64 0) (z' := .int .i64 0) HB
    obtain ⟨r0, r1, r2, _, _, _⟩ := cells3 hb2
    clear HB hb2 c0
    go_wp2
    refine bodyPost_ret (v := .tuple #[en (0, 0, 0), .bool false]) (by simp [results, Try.results11, go_sem, r0, r1, r2]) rfl ⟨rfl, ?_⟩
    exact ((G.out.st (Nat.le_refl _) _).st (Nat.le_refl _) _).st (Nat.le_refl _) _
  · have hpos : 0 < L.length := List.length_pos_iff.2 hL
    have hne : ¬ L.length = 0 := by omega
    obtain ⟨a, cap, rfl, hc, _⟩ := (H1.out.ents (by omega)).shape
    obtain ⟨b, off, rfl, hb0, x1, x2, x3⟩ := (H1.out.ents (by omega)).at_ (i := 0) hpos
    simp only [Nat.zero_mul, Nat.add_zero] at x1 x2 x3
    obtain ⟨ex, hex⟩ : ∃ ex, ex = L.getD 0 e0 := ⟨_, rfl⟩
    rw [← hex] at x1 x2 x3
    have HF : Hid (Ending.returned (.tuple #[en ex, .bool true]) = .returned (.tuple #[en (L.getD 0 e0), .bool (decide (0 < L.length))])) := Lib.hid (by rw [← hex, decide_eq_true hpos])
    clear hex
    obtain ⟨xa, xb, xc⟩ := ex
    simp only at x1 x2 x3
    have hb2 := set3 (x' := .int .i64 xa) (y' := .int .i64 xb) (z' := .int .i64 xc) HB
    obtain ⟨r0, r1, r2, _, _, _⟩ := cells3 hb2
    clear HB hb2
    clear H H1 hL
    go_wp2
    refine bodyPost_ret (v := .tuple #[en (xa, xb, xc), .bool true]) (by simp [results, Try.results11, go_sem, r0, r1, r2]) rfl ⟨HF.out, ?_⟩
    exact ((G.out.st (Nat.le_refl _) _).st (Nat.le_refl _) _).st (Nat.le_refl _) _
end Go.Proofs.Ytcmlcoedgfehgaa
