/-
  Layer 5: the least entry taken away; entries dropped.
-/
import Derived.Test.YtcmlcoedgfehgaaH8
namespace Go.Proofs.Ytcmlcoedgfehgaa
open Go.RowKit Go.Tab Go.WideShapes

def popF (L : List Ent3) : List Ent3 := if 0 < L.length then removeF L 0 else L
def topV (L : List Ent3) : Value := .tuple #[en (L.getD 0 e0), .bool (decide (0 < L.length))]

theorem heap_set {w w2 : World} {hb B k : Nat} {v v2 : Value} {L : List Ent3} (h : HeapAt w2 hb B v2 L) (hs : HStep w w2 hb v v2) (hk : w.heap.size ≤ k) (h1 : k ≠ hb) (h2 : v2.ownBlock ≠ some k) (i : Nat) (x : Value) :
    HeapAt (w2.setCell ⟨k, i, none⟩ x) hb B v2 L ∧ HStep w (w2.setCell ⟨k, i, none⟩ x) hb v v2 := by
  have ho : ∀ j, j ≠ k → (w2.setCell ⟨k, i, none⟩ x).heap[j]? = w2.heap[j]? := fun j hj => heap_setCell_other w2 ⟨k, i, none⟩ j _ (fun e => hj e)
  have hz : (w2.setCell ⟨k, i, none⟩ x).heap.size = w2.heap.size := by simp [World.setCell]
  refine ⟨⟨(ho hb (fun e => h1 e.symm)).trans h.blk, ?_, h.ne, by rw [hz]; exact h.base⟩, ⟨⟨hs.keep.os, hs.keep.tape, hs.keep.output, by rw [hz]; exact hs.keep.size, fun j hj h3 h4 => ?_⟩, hs.row⟩⟩
  · obtain ⟨ha, hc | ⟨g', cap', cur, rfl, hbb, hh, rest⟩⟩ := h.own
    · exact ⟨ha, .inl hc⟩
    · exact ⟨ha, .inr ⟨_, _, cur, rfl, hbb, (ho g' (fun e => h2 (by rw [e]; rfl))).trans hh, rest⟩⟩
  · rw [ho j (by omega)]
    exact hs.keep.block j hj h3 h4

set_option maxRecDepth 100000 in
set_option maxHeartbeats 2000000 in
theorem pop_heap {w : World} {hb B : Nat} {v : Value} {L : List Ent3} (h : HeapAt w hb B v L) (hn : L.length ≤ 1000) :
    Calls Try.prog 6 #[.pointer (some ⟨hb, 0, none⟩)] w (HPost (topV L) (popF L) w hb B v) := by
  have H := Lib.hid h
  have hlt := h.lt
  have hown : ∀ g, v.ownBlock = some g → g < w.heap.size := fun g hg => (own_lt h.own hg).2
  have HOW := Lib.hid hown
  clear h hown
  go_enter Try.func6, Try.ntmps6
  go_wp2_with fail
  refine (top_heap (H.out.grows ((Grows.refl w).al _)) hn).mono ?_
  rintro _ w1 ⟨rfl, hg⟩
  have hb := hg.block (heap_new _ _ _ rfl)
  have S1 := hg.size
  simp only [World.size_alloc] at S1
  have G := Lib.hid (((Grows.refl w).al _).trans hg)
  clear hg
  obtain ⟨ex, hex⟩ : ∃ ex, ex = L.getD 0 e0 := ⟨_, rfl⟩
  rw [← hex]
  by_cases hL : L = []
  · have HF : Hid (Ending.returned (.tuple #[en (0, 0, 0), .bool false]) = .returned (topV L)) := Lib.hid (by rw [hL]; rfl)
    have HP : Hid (popF L = L) := Lib.hid (by rw [hL]; rfl)
    have hd : decide (0 < L.length) = false := by rw [hL]; rfl
    have hx : ex = (0, 0, 0) := by rw [hex, hL]; rfl
    subst hx
    rw [hd]
    have hb1 := (Grows.alloc w1 (.cells #[.int .i64 0, .int .i64 0, .int .i64 0] 30)).block hb
    obtain ⟨k0, k1, k2, f0, f1, f2⟩ := cells3 hb1
    have hb2 := set3 (x' := .int .i64 0) (y' := .int .i64 0) (z' := .int .i64 0) hb1
    obtain ⟨r0, r1, r2, _, _, _⟩ := cells3 hb2
    have G := Lib.hid (G.out.al (.cells #[.int .i64 0, .int .i64 0, .int .i64 0] 30))
    clear hb hb1 hb2 hd hex hL
    go_wp2
    have KEY : ∀ w', Grows w w' → HPost (topV L) (popF L) w hb B v (.returned (.tuple #[en (0, 0, 0), .bool false])) w' := fun w' hg => ⟨HF.out, v, by rw [HP.out]; exact H.out.grows hg, HStep.of _ _ hg⟩
    refine bodyPost_ret (v := .tuple #[en (0, 0, 0), .bool false]) (by simp [results, Try.results6, go_sem, r0, r1, r2]) rfl (KEY _ ?_)
    exact ((G.out.st (Nat.le_refl _) _).st (Nat.le_refl _) _).st (Nat.le_refl _) _
  · have hpos : 0 < L.length := List.length_pos_iff.2 hL
    have HF : Hid (Ending.returned (.tuple #[en ex, .bool true]) = .returned (topV L)) := Lib.hid (by unfold topV; rw [← hex, decide_eq_true hpos])
    have HP : Hid (popF L = removeF L 0) := Lib.hid (by unfold popF; rw [if_pos hpos])
    have hd : decide (0 < L.length) = true := by simpa using hpos
    rw [hd]
    obtain ⟨xa, xb, xc⟩ := ex
    have G1 := Lib.hid (G.out.al (.cells #[.int .i64 xa, .int .i64 xb, .int .i64 xc] 30))
    have H1 := Lib.hid (H.out.grows G1.out)
    have hb1 := (Grows.alloc w1 (.cells #[.int .i64 xa, .int .i64 xb, .int .i64 xc] 30)).block hb
    have hn1 := heap_new w1 (.cells #[.int .i64 xa, .int .i64 xb, .int .i64 xc] 30) _ rfl
    have HB1 := Lib.hid hb1
    have HN1 := Lib.hid hn1
    clear hd hex hb hb1 hn1
    go_wp2_with fail
    refine (remove_heap H1.out 0 hpos (by omega)).mono ?_
    rintro _ w2 ⟨rfl, v2, h2, s2⟩
    have B1 := (s2.keep.block w.heap.size (by simp only [World.size_alloc]; omega) (by omega) (fun he => by have := HOW.out _ he; omega)).trans HB1.out
    have B2 := (s2.keep.block w1.heap.size (by simp only [World.size_alloc]; omega) (by omega) (fun he => by have := HOW.out _ he; omega)).trans HN1.out
    obtain ⟨k0, k1, k2, f0, f1, f2⟩ := cells3 B1
    obtain ⟨l0, l1, l2, _, _, _⟩ := cells3 B2
    have hb2 := set3 (x' := .int .i64 xa) (y' := .int .i64 xb) (z' := .int .i64 xc) B1
    obtain ⟨r0, r1, r2, _, _, _⟩ := cells3 hb2
    have H2 := Lib.hid h2
    have S2 := Lib.hid (HStep.after G1.out s2)
    have hz := s2.keep.size
    have HV2 : Hid (v2.ownBlock ≠ some w.heap.size) := Lib.hid fun he => by
      rcases s2.row with hr | hr
      · have := HOW.out _ (hr ▸ he); omega
      · have := hr _ he; simp only [World.size_alloc] at this; omega
    simp only [World.size_alloc] at hz
    clear B1 B2 hb2 h2 s2 HN1 HB1 H1 G1 G
    go_wp2
    have hv2 : v2.ownBlock ≠ some w.heap.size := HV2.out
    have P1 := heap_set H2.out S2.out (k := w.heap.size) (Nat.le_refl _) (by omega) hv2 0 (.int .i64 xa)
    have P2 := heap_set P1.1 P1.2 (k := w.heap.size) (Nat.le_refl _) (by omega) hv2 1 (.int .i64 xb)
    have P3 := heap_set P2.1 P2.2 (k := w.heap.size) (Nat.le_refl _) (by omega) hv2 2 (.int .i64 xc)
    refine bodyPost_ret (v := .tuple #[en (xa, xb, xc), .bool true]) (by simp [results, Try.results6, go_sem, r0, r1, r2]) rfl ⟨HF.out, v2, ?_, ?_⟩
    · rw [HP.out]
      exact P3.1
    · exact P3.2
end Go.Proofs.Ytcmlcoedgfehgaa
