/-
  Layer 1: boxes: the program's, and points as the document's.
-/
import Derived.Test.YtkedcaplbdhmeaaE2
import Derived.RegionTactic
import Derived.BigRegion
import Derived.OwnWalk
namespace Go.Proofs.Ytkedcaplbdhmeaa
open Go.RowKit Go.Tab

def bx4 (l : List (Int × Int)) (q : Int × Int × Int × Int) : Int × Int × Int × Int :=
  l.foldl (fun q p => (min q.1 p.1, min q.2.1 p.2, max q.2.2.1 p.1, max q.2.2.2 p.2)) q
def bx0 (l : List (Int × Int)) : Int × Int × Int × Int := ((l.getD 0 (0, 0)).1, (l.getD 0 (0, 0)).2, (l.getD 0 (0, 0)).1, (l.getD 0 (0, 0)).2)
theorem bx4_succ (l : List (Int × Int)) (k : Nat) (h : k < l.length) (q : Int × Int × Int × Int) :
    bx4 (l.take (k + 1)) q = (min (bx4 (l.take k) q).1 (l.getD k (0, 0)).1, min (bx4 (l.take k) q).2.1 (l.getD k (0, 0)).2, max (bx4 (l.take k) q).2.2.1 (l.getD k (0, 0)).1, max (bx4 (l.take k) q).2.2.2 (l.getD k (0, 0)).2) := by
  unfold bx4
  rw [List.take_succ_eq_append_getElem h, List.foldl_append]
  simp [h]

abbrev box3v (a b c d : Int) (ok : Bool) : Value := .tuple #[pt a b, pt c d, .bool ok]

set_option maxHeartbeats 400000 in
theorem box_nil (a : Option Addr) (cap : Nat) (w : World) : Calls Try.prog 24 #[.slice a 0 cap] w (Ret (box3v 0 0 0 0 false) w) := by
  go_enter Try.func24, Try.ntmps24
  go_wp2
  exact bodyPost_ret (v := box3v 0 0 0 0 false) (by simp [results, Try.results24, go_sem]) rfl ⟨rfl, ((Grows.refl w).al _).al _⟩

theorem box2h {w w1 : World} {x1 y1 x2 y2 : Value} {T1 T2 : TypeId} (h : Grows ((w.alloc (.cells #[x1, y1] T1)).alloc (.cells #[x2, y2] T2)) w1) :
    w1.heap[w.heap.size]? = some (.cells #[x1, y1] T1 (0, 0)) ∧ w1.heap[w.heap.size + 1]? = some (.cells #[x2, y2] T2 (0, 0)) := by
  constructor
  · refine Grows.block h ?_
    rw [show (World.alloc _ _).heap[_]? = _ from Below.heap_alloc _ _ _ (by simp only [World.size_alloc]; omega)]
    exact heap_new _ _ _ rfl
  · exact Grows.block h (heap_new _ _ _ (by simp only [World.size_alloc]))

set_option maxHeartbeats 400000 in
theorem box_bad (b off n cap : Nat) (w : World) (hn : (n == 0) = false) (hn0 : ¬ n = 0)
    (Hr : Hid (∀ w1, Grows w w1 → Calls Try.prog 13 #[.slice (some ⟨b, off, none⟩) n cap] w1 (Ret (.bool false) w1))) : Calls Try.prog 24 #[.slice (some ⟨b, off, none⟩) n cap] w (Ret (box3v 0 0 0 0 false) w) := by
  go_enter Try.func24, Try.ntmps24
  go_wp2_with fail
  refine (Hr.out _ (((Grows.refl w).al _).al _)).mono ?_
  rintro e w1 ⟨rfl, hg⟩
  obtain ⟨h2, h3⟩ := box2h hg
  obtain ⟨c1, c2, f1, f2⟩ := cells2 h2
  obtain ⟨c3, c4, f3, f4⟩ := cells2 h3
  have G := Lib.hid ((((Grows.refl w).al _).al _).trans hg)
  clear hg h2 h3
  go_wp2
  exact bodyPost_ret (v := box3v 0 0 0 0 false) (by simp [results, Try.results24, go_sem, c1, c2, c3, c4]) rfl ⟨rfl, (((G.out.st (Nat.le_refl _) _).st (Nat.le_refl _) _).st (Nat.le_succ _) _).st (Nat.le_succ _) _⟩

theorem al_Q {d : Option Tmp} {T : TypeId} {p : String} (r : Operand → Value) (w : World) : (execOp r { dst := d, op := Op.alloc 23, type := T, pos := p, after := #[], guard := none }).run Try.prog w = .ok (.value (.pointer (some ⟨w.heap.size, 0, none⟩))) (w.alloc (.cells #[.int .i64 0, .int .i64 0] 23 (0, 0))) := by simp [go_sem]

set_option maxRecDepth 100000 in
set_option maxHeartbeats 1600000 in
theorem box_good (l : List (Int × Int)) (b off n cap : Nat) (x0 y0 : Int) (w : World) (hn : (n == 0) = false) (hpos : 0 < n) (hnl : n ≤ 17592186044416) (Hn : Hid (l.length = n)) (hb : b < w.heap.size)
    (H0 : Hid (l.getD 0 (0, 0) = (x0, y0)))
    (Hc : Hid (∀ w1, Grows w w1 → ∀ i, i < n → w1.cell? ⟨b, off + i * 2, none⟩ = some (.int .i64 (l.getD i (0, 0)).1) ∧ w1.cell? ⟨b, off + i * 2 + 1, none⟩ = some (.int .i64 (l.getD i (0, 0)).2)))
    (Hr : Hid (∀ w1, Grows w w1 → Calls Try.prog 13 #[.slice (some ⟨b, off, none⟩) n cap] w1 (Ret (.bool true) w1))) (q : Int × Int × Int × Int) (Hq : Hid (bx4 l (x0, y0, x0, y0) = q)) :
    Calls Try.prog 24 #[.slice (some ⟨b, off, none⟩) n cap] w (Ret (box3v q.1 q.2.1 q.2.2.1 q.2.2.2 true) w) := by
  have hn0 : ¬ n = 0 := by omega
  go_enter Try.func24, Try.ntmps24
  go_wp2_with fail
  refine (Hr.out _ (((Grows.refl w).al _).al _)).mono ?_
  rintro e wR ⟨rfl, hgR⟩
  have G0 := Lib.hid hgR
  clear hgR
  have hsR := G0.out.size
  simp only [World.size_alloc] at hsR
  have hbR : b < wR.heap.size := by omega
  have hb1 : ¬ b = wR.heap.size := by omega
  have hb2 : ¬ b = wR.heap.size + 1 := by omega
  have hc0 : wR.cell? ⟨b, off, none⟩ = some (.int .i64 x0) ∧ wR.cell? ⟨b, off + 1, none⟩ = some (.int .i64 y0) := by
    have := Hc.out wR ((((Grows.refl w).al _).al _).trans G0.out) 0 hpos
    rw [H0.out, Nat.zero_mul, Nat.add_zero] at this
    exact this
  obtain ⟨c01, c02⟩ := hc0
  have e0 : ∀ o, ((wR.alloc o).cell? ⟨b, off, none⟩ = some (.int .i64 x0)) := fun o => by rw [World.cell?_alloc_lt _ _ _ hbR]; exact c01
  have e1 : ∀ o, ((wR.alloc o).cell? ⟨b, off + 1, none⟩ = some (.int .i64 y0)) := fun o => by rw [World.cell?_alloc_lt _ _ _ hbR]; exact c02
  have e2 : ∀ o o', (((wR.alloc o).alloc o').cell? ⟨b, off, none⟩ = some (.int .i64 x0)) := fun o o' => by rw [World.cell?_alloc_lt _ _ _ (by simp only [World.size_alloc]; omega)]; exact e0 o
  have e3 : ∀ o o', (((wR.alloc o).alloc o').cell? ⟨b, off + 1, none⟩ = some (.int .i64 y0)) := fun o o' => by rw [World.cell?_alloc_lt _ _ _ (by simp only [World.size_alloc]; omega)]; exact e1 o
  go_wp2
  go_region
  · refine (‹∀ (a : Act) (w : World), Code.wp _ _ _ a w → _›) _ _ ?_
    have kk := box2h (w := wR) (x1 := .int .i64 x0) (y1 := .int .i64 y0) (x2 := .int .i64 x0) (y2 := .int .i64 y0) (T1 := 23) (T2 := 23) (Grows.refl _).dr
    have gg := ((G0.out.al (.cells #[.int .i64 x0, .int .i64 y0] 23)).al (.cells #[.int .i64 x0, .int .i64 y0] 23)).dr
    generalize World.drew _ = W1 at kk gg ⊢
    obtain ⟨S5', S6'⟩ := kk
    generalize hs5 : wR.heap.size = b5 at S5' S6' ⊢
    generalize hs6 : b5 + 1 = b6 at S6' ⊢
    have n56 : ¬ b5 = b6 := by omega
    have n65 : ¬ b6 = b5 := by omega
    have hl5 : w.heap.size + 1 + 1 ≤ b5 := by omega
    have hl6 : w.heap.size + 1 + 1 ≤ b6 := by omega
    have S5 := Lib.hid S5'
    have S6 := Lib.hid S6'
    have G1 := Lib.hid gg
    clear hs5 hs6 gg S5' S6'
    clear e0 e1 e2 e3 c01 c02 hbR hb1 hb2 G0 hsR
    clear wR
    clear H0 hn0
    go_wp2
    go_loopw [27] (fun i wr => ∃ k : Nat, k ≤ n ∧ i = .int .i64 k ∧ ∃ a c d e : Int, bx4 (l.take k) (x0, y0, x0, y0) = (a, c, d, e) ∧ wr.heap[b5]? = some (.cells #[.int .i64 a, .int .i64 c] 23 (0, 0)) ∧ wr.heap[b6]? = some (.cells #[.int .i64 d, .int .i64 e] 23 (0, 0)) ∧
      Grows ((w.alloc (.cells #[.int .i64 0, .int .i64 0] 23)).alloc (.cells #[.int .i64 0, .int .i64 0] 23)) wr) (fun i _ => n - (intOf i).toNat)
    case atStart => exact ⟨0, Nat.zero_le _, rfl, x0, y0, x0, y0, rfl, S5.out, S6.out, G1.out⟩
    case round =>
      obtain ⟨k, hk, rfl, a, c, d, e, hq, h5, h6, hg⟩ := hrel
      clear S5 S6 G1
      obtain ⟨wr, rfl⟩ : ∃ w1 : World, w1 = wr := ⟨_, rfl⟩
      have h2s := hg.size
      simp only [World.size_alloc] at h2s
      obtain ⟨c1, c2, f1, f2⟩ := cells2 h5
      obtain ⟨c3, c4, f3, f4⟩ := cells2 h6
      have hu5 : b5 < wr.heap.size := (Array.getElem?_eq_some_iff.1 h5).1
      have hu6 : b6 < wr.heap.size := (Array.getElem?_eq_some_iff.1 h6).1
      by_cases hlt : k < n
      · obtain ⟨e1, e2⟩ := Hc.out wr ((((Grows.refl w).al _).al _).trans hg) k hlt
        have Hs := Lib.hid (bx4_succ l k (by rw [Hn.out]; exact hlt) (x0, y0, x0, y0))
        generalize l.getD k (0, 0) = z at e1 e2 Hs
        obtain ⟨x, y⟩ := z
        simp only at e1 e2
        have hmx : ∀ a b : Int, (if a < b then b else a) = max a b := fun a b => by omega
        have hmn : ∀ a b : Int, (if b < a then b else a) = min a b := fun a b => by omega
        have H5 := Lib.hid h5
        have H6 := Lib.hid h6
        have Hg := Lib.hid hg
        have Hqq := Lib.hid hq
        clear h5 h6 hg hq
        go_wp2
        refine ⟨⟨k + 1, hlt, by simp, _, _, _, _, by rw [Hs.out, Hqq.out], ?_, ?_, ?_⟩, ?_⟩
        · rw [show (World.alloc _ _).heap[b5]? = _ from Below.heap_alloc _ _ _ (by simp; omega), set2o n56, set2 H5.out]
        · rw [show (World.alloc _ _).heap[b6]? = _ from Below.heap_alloc _ _ _ (by simp; omega), set2 (by rw [set2o n65]; exact H6.out)]
        · exact ((((Hg.out.st (by simp only [World.size_alloc]; omega) _).st (by simp only [World.size_alloc]; omega) _).st (by simp only [World.size_alloc]; omega) _).st (by simp only [World.size_alloc]; omega) _).al _
        · simp only [intOf]; omega
      · have hkn : k = n := by omega
        subst hkn
        have H5 := Lib.hid h5
        have H6 := Lib.hid h6
        have Hg := Lib.hid hg
        have Hqq := Lib.hid hq
        clear h5 h6
        obtain ⟨r2, r3⟩ := box2h hg
        obtain ⟨c5, c6, f5, f6⟩ := cells2 r2
        obtain ⟨c7, c8, f7, f8⟩ := cells2 r3
        have m1 : ¬ b5 = w.heap.size := by omega
        have m2 : ¬ b6 = w.heap.size := by omega
        have m3 : ¬ b5 = w.heap.size + 1 := by omega
        have m4 : ¬ b6 = w.heap.size + 1 := by omega
        have hqe : q = (a, c, d, e) := by rw [← Hq.out, ← Hqq.out, List.take_of_length_le (by rw [Hn.out]; exact Nat.le_refl _)]
        subst hqe
        clear hg hq r2 r3
        go_wp2
        go_region
        refine (‹∀ (a : Act) (w : World), Code.wp _ _ _ a w → _›) _ _ ?_
        go_wp2
        refine bodyPost_ret (v := box3v a c d e true) (by simp [results, Try.results24, go_sem, c5, c6, c7, c8]) rfl ⟨rfl, ?_⟩
        have G2 := (((Grows.refl w).al (.cells #[.int .i64 0, .int .i64 0] 23)).al (.cells #[.int .i64 0, .int .i64 0] 23)).trans Hg.out
        exact ((((G2.st (Nat.le_refl _) _).st (Nat.le_refl _) _).st (Nat.le_succ _) _).st (Nat.le_succ _) _).dr
  · refine (‹∀ (a : Act) (w : World), Code.wp _ _ _ a w → _›) _ _ ?_
    have kk := box2h (w := wR) (x1 := .int .i64 x0) (y1 := .int .i64 y0) (x2 := .int .i64 x0) (y2 := .int .i64 y0) (T1 := 23) (T2 := 23) (Grows.refl _).dr
    have gg := ((G0.out.al (.cells #[.int .i64 x0, .int .i64 y0] 23)).al (.cells #[.int .i64 x0, .int .i64 y0] 23)).dr
    generalize World.drew _ = W1 at kk gg ⊢
    obtain ⟨S6', S5'⟩ := kk
    generalize hs6 : wR.heap.size = b6 at S5' S6' ⊢
    generalize hs5 : b6 + 1 = b5 at S5' ⊢
    have n56 : ¬ b5 = b6 := by omega
    have n65 : ¬ b6 = b5 := by omega
    have hl5 : w.heap.size + 1 + 1 ≤ b5 := by omega
    have hl6 : w.heap.size + 1 + 1 ≤ b6 := by omega
    have S5 := Lib.hid S5'
    have S6 := Lib.hid S6'
    have G1 := Lib.hid gg
    clear hs5 hs6 gg S5' S6'
    clear e0 e1 e2 e3 c01 c02 hbR hb1 hb2 G0 hsR
    clear wR
    clear H0 hn0
    go_wp2
    go_loopw [27] (fun i wr => ∃ k : Nat, k ≤ n ∧ i = .int .i64 k ∧ ∃ a c d e : Int, bx4 (l.take k) (x0, y0, x0, y0) = (a, c, d, e) ∧ wr.heap[b5]? = some (.cells #[.int .i64 a, .int .i64 c] 23 (0, 0)) ∧ wr.heap[b6]? = some (.cells #[.int .i64 d, .int .i64 e] 23 (0, 0)) ∧
      Grows ((w.alloc (.cells #[.int .i64 0, .int .i64 0] 23)).alloc (.cells #[.int .i64 0, .int .i64 0] 23)) wr) (fun i _ => n - (intOf i).toNat)
    case atStart => exact ⟨0, Nat.zero_le _, rfl, x0, y0, x0, y0, rfl, S5.out, S6.out, G1.out⟩
    case round =>
      obtain ⟨k, hk, rfl, a, c, d, e, hq, h5, h6, hg⟩ := hrel
      clear S5 S6 G1
      obtain ⟨wr, rfl⟩ : ∃ w1 : World, w1 = wr := ⟨_, rfl⟩
      have h2s := hg.size
      simp only [World.size_alloc] at h2s
      obtain ⟨c1, c2, f1, f2⟩ := cells2 h5
      obtain ⟨c3, c4, f3, f4⟩ := cells2 h6
      have hu5 : b5 < wr.heap.size := (Array.getElem?_eq_some_iff.1 h5).1
      have hu6 : b6 < wr.heap.size := (Array.getElem?_eq_some_iff.1 h6).1
      by_cases hlt : k < n
      · obtain ⟨e1, e2⟩ := Hc.out wr ((((Grows.refl w).al _).al _).trans hg) k hlt
        have Hs := Lib.hid (bx4_succ l k (by rw [Hn.out]; exact hlt) (x0, y0, x0, y0))
        generalize l.getD k (0, 0) = z at e1 e2 Hs
        obtain ⟨x, y⟩ := z
        simp only at e1 e2
        have hmx : ∀ a b : Int, (if a < b then b else a) = max a b := fun a b => by omega
        have hmn : ∀ a b : Int, (if b < a then b else a) = min a b := fun a b => by omega
        have H5 := Lib.hid h5
        have H6 := Lib.hid h6
        have Hg := Lib.hid hg
        have Hqq := Lib.hid hq
        clear h5 h6 hg hq
        go_wp2
        refine ⟨⟨k + 1, hlt, by simp, _, _, _, _, by rw [Hs.out, Hqq.out], ?_, ?_, ?_⟩, ?_⟩
        · rw [show (World.alloc _ _).heap[b5]? = _ from Below.heap_alloc _ _ _ (by simp; omega), set2o n56, set2 H5.out]
        · rw [show (World.alloc _ _).heap[b6]? = _ from Below.heap_alloc _ _ _ (by simp; omega), set2 (by rw [set2o n65]; exact H6.out)]
        · exact ((((Hg.out.st (by simp only [World.size_alloc]; omega) _).st (by simp only [World.size_alloc]; omega) _).st (by simp only [World.size_alloc]; omega) _).st (by simp only [World.size_alloc]; omega) _).al _
        · simp only [intOf]; omega
      · have hkn : k = n := by omega
        subst hkn
        have H5 := Lib.hid h5
        have H6 := Lib.hid h6
        have Hg := Lib.hid hg
        have Hqq := Lib.hid hq
        clear h5 h6
        obtain ⟨r2, r3⟩ := box2h hg
        obtain ⟨c5, c6, f5, f6⟩ := cells2 r2
        obtain ⟨c7, c8, f7, f8⟩ := cells2 r3
        have m1 : ¬ b5 = w.heap.size := by omega
        have m2 : ¬ b6 = w.heap.size := by omega
        have m3 : ¬ b5 = w.heap.size + 1 := by omega
        have m4 : ¬ b6 = w.heap.size + 1 := by omega
        have hqe : q = (a, c, d, e) := by rw [← Hq.out, ← Hqq.out, List.take_of_length_le (by rw [Hn.out]; exact Nat.le_refl _)]
        subst hqe
        clear hg hq r2 r3
        go_wp2
        go_region
        refine (‹∀ (a : Act) (w : World), Code.wp _ _ _ a w → _›) _ _ ?_
        go_wp2
        refine bodyPost_ret (v := box3v a c d e true) (by simp [results, Try.results24, go_sem, c5, c6, c7, c8]) rfl ⟨rfl, ?_⟩
        have G2 := (((Grows.refl w).al (.cells #[.int .i64 0, .int .i64 0] 23)).al (.cells #[.int .i64 0, .int .i64 0] 23)).trans Hg.out
        exact ((((G2.st (Nat.le_refl _) _).st (Nat.le_refl _) _).st (Nat.le_succ _) _).st (Nat.le_succ _) _).dr
end Go.Proofs.Ytkedcaplbdhmeaa
