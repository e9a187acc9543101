/-
  Layer 5: what comes ahead; a nil heap.
-/
import Derived.Test.YtcmlcoedgfehgaaRows
import Derived.Test.YtcmlcoedgfehgaaTab
import Derived.Test.YtcmlcoedgfehgaaTQ
import Derived.ProofKit
import Derived.WalkKit
import Derived.LoopTactic
import Derived.Outline
import Derived.Below
import Derived.BigQuiet
import Derived.WideShapes
import Derived.Lib.Hide
import Derived.Lib.SmallJoins
namespace Go.Proofs.Ytcmlcoedgfehgaa
open Go.RowKit Go.Tab Go.WideShapes

abbrev iv (x : Int) : Value := .int .i64 x
abbrev en (e : Int × Int × Int) : Value := .agg #[.int .i64 e.1, .int .i64 e.2.1, .int .i64 e.2.2]
theorem ret_bool {a b : Bool} (h : a = b) : Ending.returned (.bool a) = .returned (.bool b) := by rw [h]
def lessE (a b : Int × Int × Int) : Bool := if a.1 = b.1 then (if a.2.1 = b.2.1 then decide (a.2.2 < b.2.2) else decide (a.2.1 < b.2.1)) else decide (a.1 < b.1)

set_option maxHeartbeats 1000000 in
theorem less_any (a b : Int × Int × Int) (w : World) : Calls Try.prog 15 #[en a, en b] w (Ret (.bool (lessE a b)) w) := by
  obtain ⟨a1, a2, a3⟩ := a
  obtain ⟨b1, b2, b3⟩ := b
  go_enter Try.func15, Try.ntmps15
  go_wp2
  all_goals
    go_ret
    exact ⟨ret_bool (by unfold lessE; simp_all), ((Grows.refl w).al _).al _⟩
set_option maxHeartbeats 1000000 in
theorem rless_any (a b : Int × Int × Int) (w : World) : Calls Try.prog 16 #[en a, en b] w (Ret (.bool (lessE a b)) w) := by
  obtain ⟨a1, a2, a3⟩ := a
  obtain ⟨b1, b2, b3⟩ := b
  go_enter Try.func16, Try.ntmps16
  go_wp2
  all_goals
    go_ret
    refine ⟨ret_bool ?_, ((Grows.refl w).al _).al _⟩
    unfold lessE
    simp only [decide_eq_true_eq]
    split <;> (try split) <;> simp_all <;> omega

theorem cells3 {w : World} {b : Nat} {x y z : Value} {T : TypeId} (h : w.heap[b]? = some (.cells #[x, y, z] T (0, 0))) :
    w.cell? ⟨b, 0, none⟩ = some x ∧ w.cell? ⟨b, 1, none⟩ = some y ∧ w.cell? ⟨b, 2, none⟩ = some z ∧ w.frozen? ⟨b, 0, none⟩ = false ∧ w.frozen? ⟨b, 1, none⟩ = false ∧ w.frozen? ⟨b, 2, none⟩ = false := by
  refine ⟨?_, ?_, ?_, ?_, ?_, ?_⟩ <;> simp [World.cell?, World.frozen?, h]
theorem set3 {w : World} {b : Nat} {x y z x' y' z' : Value} {T : TypeId} (h : w.heap[b]? = some (.cells #[x, y, z] T (0, 0))) :
    (((w.setCell ⟨b, 0, none⟩ x').setCell ⟨b, 1, none⟩ y').setCell ⟨b, 2, none⟩ z').heap[b]? = some (.cells #[x', y', z'] T (0, 0)) := by
  simp [World.setCell, Array.getElem?_modify, h]
theorem len_nil (w : World) : Calls Try.prog 12 #[.pointer none] w (Ret (iv 0) w) := by
  go_enter Try.func12, Try.ntmps12
  go_wp2
  go_ret
  exact ⟨rfl, Grows.refl w⟩
set_option maxHeartbeats 1000000 in
theorem top_nil (w : World) : Calls Try.prog 11 #[.pointer none] w (Ret (.tuple #[en (0, 0, 0), .bool false]) w) := by
  go_enter Try.func11, Try.ntmps11
  go_wp2_with fail
  refine (len_nil _).mono ?_
  rintro _ w1 ⟨rfl, hg⟩
  have hb : w1.heap[w.heap.size]? = some (.cells #[.int .i64 0, .int .i64 0, .int .i64 0] 30 (0, 0)) := hg.block (heap_new _ _ _ rfl)
  obtain ⟨k0, k1, k2, f0, f1, f2⟩ := cells3 hb
  have hb2 := set3 (x' := .int .i64 0) (y' := .int .i64 0) (z' := .int .i64 0) hb
  obtain ⟨r0, r1, r2, _, _, _⟩ := cells3 hb2
  have G := Lib.hid (((Grows.refl w).al _).trans hg)
  clear hg hb hb2
  go_wp2
  refine bodyPost_ret (v := .tuple #[en (0, 0, 0), .bool false]) (by simp [results, Try.results11, go_sem, r0, r1, r2]) rfl ⟨rfl, ?_⟩
  exact ((G.out.st (Nat.le_refl _) _).st (Nat.le_refl _) _).st (Nat.le_refl _) _
set_option maxHeartbeats 1000000 in
theorem pop_nil (w : World) : Calls Try.prog 6 #[.pointer none] w (Ret (.tuple #[en (0, 0, 0), .bool false]) w) := by
  go_enter Try.func6, Try.ntmps6
  go_wp2_with fail
  refine (top_nil _).mono ?_
  rintro _ w1 ⟨rfl, hg⟩
  have hb : w1.heap[w.heap.size]? = some (.cells #[.int .i64 0, .int .i64 0, .int .i64 0] 30 (0, 0)) := hg.block (heap_new _ _ _ rfl)
  have hb1 := (Grows.alloc w1 (.cells #[.int .i64 0, .int .i64 0, .int .i64 0] 30)).block hb
  obtain ⟨k0, k1, k2, f0, f1, f2⟩ := cells3 hb1
  have hb2 := set3 (x' := .int .i64 0) (y' := .int .i64 0) (z' := .int .i64 0) hb1
  obtain ⟨r0, r1, r2, _, _, _⟩ := cells3 hb2
  have G := Lib.hid ((((Grows.refl w).al _).trans hg).al (.cells #[.int .i64 0, .int .i64 0, .int .i64 0] 30))
  have hs := hg.size
  simp only [World.size_alloc] at hs
  clear hg hb hb1 hb2
  go_wp2
  refine bodyPost_ret (v := .tuple #[en (0, 0, 0), .bool false]) (by simp [results, Try.results6, go_sem, r0, r1, r2]) rfl ⟨rfl, ?_⟩
  exact ((G.out.st (Nat.le_refl _) _).st (Nat.le_refl _) _).st (Nat.le_refl _) _
theorem push_nil (v : Value) (w : World) : Calls Try.prog 10 #[.pointer none, v] w (Ret (iv 0) w) := by
  go_enter Try.func10, Try.ntmps10
  go_wp2
  go_ret
  exact ⟨rfl, Grows.refl w⟩
theorem drop_nil (v : Value) (w : World) : Calls Try.prog 8 #[.pointer none, v] w (Ret (iv 0) w) := by
  go_enter Try.func8, Try.ntmps8
  go_wp2
  go_ret
  exact ⟨rfl, Grows.refl w⟩
theorem all_nil (w : World) : Calls Try.prog 14 #[.pointer none] w (Ret (.slice none 0 0) w) := by
  go_enter Try.func14, Try.ntmps14
  go_wp2
  go_ret
  exact ⟨rfl, Grows.refl w⟩
end Go.Proofs.Ytcmlcoedgfehgaa
