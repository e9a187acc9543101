/-
  Layer 20: a level's tiles, one by one: the function that is ranged over.
-/
import Derived.RangeFuncNested
import Derived.RangeFuncBound
import Derived.RangeFuncCalls
import Derived.RangeFuncLeaves
import Derived.RangeFuncBox
import Derived.Shelf.Abstract
import Derived.Shelf.RegionOpen
import Derived.WalkKit
import Derived.OwnWalkIn
import Derived.TacticsInMore
import Derived.LoopNIn
import Derived.LoopIn
import Derived.Maps.AppendAt
import Derived.Test.YtfhohgemfojjmaaW5
namespace Go.Proofs.Ytfhohgemfojjmaa
open Go.RowKit Go.Tab Go.WideShapes Go.Shelf
attribute [local go_sem] Oper.semAt_some

abbrev Tl := Int × Int × Int
abbrev tv (t : Tl) : Value := tl t.1 t.2.1 t.2.2
def tk (z : Int) (n k : Nat) : Tl := (z, ((k / n : Nat) : Int), ((k % n : Nat) : Int))
/-- The first m tiles of a level that is n wide. -/
def tilesM (z : Int) (n m : Nat) : List Tl := (List.range m).map (tk z n)
/-- A level's tiles, in order. -/
def tilesL (z : Int) : List Tl := tilesM z (wideN z) (wideN z * wideN z)
theorem tilesM_length (z : Int) (n m : Nat) : (tilesM z n m).length = m := by simp [tilesM]
theorem tilesM_succ (z : Int) (n m : Nat) : tilesM z n (m + 1) = tilesM z n m ++ [tk z n m] := by simp [tilesM, List.range_succ]
theorem tk_at (z : Int) {n a b : Nat} (hb : b < n) : tk z n (a * n + b) = (z, (a : Int), (b : Int)) := by
  have h1 : (a * n + b) / n = a := by
    rw [Nat.mul_comm, Nat.mul_add_div (by omega), Nat.div_eq_of_lt hb]; rfl
  have h2 : (a * n + b) % n = b := by
    rw [Nat.mul_comm, Nat.mul_add_mod, Nat.mod_eq_of_lt hb]
  unfold tk
  rw [h1, h2]
theorem tilesM_prefix (z : Int) (n m k : Nat) (h : m ≤ k) : tilesM z n m <+: tilesM z n k := by
  obtain ⟨d, rfl⟩ : ∃ d, k = m + d := ⟨k - m, by omega⟩
  unfold tilesM
  rw [List.range_add, List.map_append]
  exact ⟨_, rfl⟩
theorem at_lt {n a b : Nat} (ha : a < n) (hb : b < n) : a * n + b < n * n := by
  have : (a + 1) * n ≤ n * n := Nat.mul_le_mul_right n ha
  rw [Nat.add_mul, Nat.one_mul] at this
  omega
theorem succ_mul' (a n : Nat) : (a + 1) * n = a * n + n := by rw [Nat.add_mul, Nat.one_mul]

/-- A block stays as it is. -/
def KpB (b : Nat) (A B : World) : Prop := ∀ o, A.heap[b]? = some o → B.heap[b]? = some o
theorem KpB.refl (b : Nat) (A : World) : KpB b A A := fun _ h => h
theorem KpB.trans {b : Nat} {A B C : World} (h : KpB b A B) (k : KpB b B C) : KpB b A C := fun o ho => k o (h o ho)
theorem KpB.alloc (b : Nat) (A : World) (x : Obj) : KpB b A (A.alloc x) := fun _ ho => (Grows.alloc A x).block ho
theorem KpB.put {b : Nat} {w : World} (hb : b < w.heap.size) (W : World) (l : Nat) (o o' : Obj) (hl : w.heap.size ≤ l) (_ : W.heap[l]? = some o) (_ : o.isCells = false) (_ : o.isWalk = false) : KpB b W (W.putObj l o') :=
  fun _ ho => (World.putObj_heap_other (by omega)).trans ho
theorem KpB.grown {b : Nat} {A B : World} {row : Option Nat} (hg : A.grownBy B row) (h : some b ≠ row) : KpB b A B := fun _ ho => (hg.block b (Array.getElem?_eq_some_iff.1 ho).1 h).trans ho

set_option maxRecDepth 100000 in
set_option maxHeartbeats 2000000 in
theorem tiles1_in (m : Nat) (hm : 1 ≤ m) (l Bn : Nat) (z : Int) (J Jx : List Tl → World → Prop)
    (hY : ∀ pre x W, J pre W → pre.length < wideN z * wideN z → YieldAt Fence.wide (m - 1) Try.prog l #[tv x] W fun e W' =>
      (e = .returned (.bool true) ∧ J (pre ++ [x]) W' ∧ KpB Bn W W') ∨ (e = .returned (.bool false) ∧ Jx (pre ++ [x]) W'))
    (W : World) (hbx : Boxed W Bn 3 (.int .i64 z)) (h0 : J [] W) :
    CallsIn Fence.wide m Try.prog 42 #[.func (.yield l) #[] #[], .pointer (some ⟨Bn, 0, none⟩)] W fun e W' => (∃ v, e = .returned v) ∧
      ((∃ ys, ys = tilesL z ∧ J ys W') ∨ (∃ pre, pre <+: tilesL z ∧ Jx pre W')) := by
  have HW := Lib.hid (wide_any z)
  have hc := hbx.cell
  have HB := Lib.hid hbx
  clear hbx
  have HN : Hid (tilesL z = tilesM z (wideN z) (wideN z * wideN z)) := Lib.hid rfl
  have hn16 := wide_le z
  have HY := Lib.hid hY
  clear hY
  generalize tilesL z = L at HN ⊢
  generalize wideN z = n at HW HN HY hn16
  refine callsIn_of_wp Try.func42 rfl trivial ?_ rfl
  simp only [Try.ntmps42, List.size_toArray, List.length_cons, List.length_nil, Nat.reduceAdd, Nat.reduceSub, Array.replicate_succ, Array.replicate_zero, List.push_toArray, List.append_toArray, List.nil_append, List.cons_append]
  gi_wp2_with (refine ⟨trivial, ?_⟩; gi_at_call 32; refine (callsIn_wide.2 (HW.out _)).mono ?_; rintro e w' ⟨rfl, rfl⟩)
  gi_loopw [7] (fun i wr => ∃ a : Nat, a ≤ n ∧ i = .int .i64 (a : Int) ∧ Boxed wr Bn 3 (.int .i64 z) ∧ J (tilesM z n (a * n)) wr) (fun i _ => n - (intOf i).toNat)
  case atStart => exact ⟨0, Nat.zero_le _, rfl, HB.out, by rw [Nat.zero_mul]; exact h0⟩
  case round =>
    obtain ⟨a, ha, rfl, hba, hJ⟩ := hrel
    have hca := hba.cell
    have HBa := Lib.hid hba
    clear hba
    have HJ := Lib.hid hJ
    clear hJ hc h0
    by_cases hlt : a < n
    · gi_wp2_with (refine ⟨trivial, ?_⟩; gi_at_call 32; refine (callsIn_wide.2 (HW.out _)).mono ?_; rintro e w2 ⟨rfl, rfl⟩)
      obtain ⟨wo, hwo⟩ : ∃ wo : World, wo = w2 := ⟨_, rfl⟩
      rw [← hwo] at hca HBa HJ ⊢
      clear hwo
      gi_loopw [12] (fun i wr => ∃ b : Nat, b ≤ n ∧ i = .int .i64 (b : Int) ∧ Boxed wr Bn 3 (.int .i64 z) ∧ J (tilesM z n (a * n + b)) wr) (fun i _ => n - (intOf i).toNat)
      case atStart => exact ⟨0, Nat.zero_le _, rfl, HBa.out, HJ.out⟩
      case round =>
        obtain ⟨b, hb, rfl, hbb, hJb⟩ := hrel
        have hcb := hbb.cell
        have HBb := Lib.hid hbb
        clear hbb
        have HJb := Lib.hid hJb
        clear hJb
        by_cases hlb : b < n
        · have HT := Lib.hid (tk_at z (a := a) hlb)
          have HS := Lib.hid (tilesM_succ z n (a * n + b))
          rw [HT.out] at HS
          obtain ⟨fn, tmps, assign, body, hy, hR⟩ := HY.out _ (z, (a : Int), (b : Int)) _ HJb.out (by rw [tilesM_length]; exact at_lt hlt hlb)
          rw [← HS.out] at hR
          have HP := Lib.hid (tilesM_prefix z n (a * n + b + 1) (n * n) (at_lt hlt hlb))
          clear hca
          gi_wp2
          refine hR.mono ?_
          rintro e W3 (⟨rfl, hJ3, hk3⟩ | ⟨rfl, hJx3⟩)
          · have HB3 := Lib.hid (show Boxed W3 Bn 3 (.int .i64 z) from hk3 _ HBb.out)
            have HJ3 := Lib.hid hJ3
            clear hJ3 hk3 hcb hy hR
            gi_wp2
            go_roundw
            case rel => exact ⟨b + 1, by omega, by go_num, HB3.out, HJ3.out⟩
            case measure => simp [intOf]; omega
          · have HJ3 := Lib.hid hJx3
            clear hJx3 hcb hy hR
            gi_wp2
            refine bodyPost_ret (results_none rfl _ _ _) rfl ?_
            exact ⟨⟨_, rfl⟩, .inr ⟨_, by rw [HN.out]; exact HP.out, HJ3.out⟩⟩
        · obtain rfl : b = n := by omega
          gi_wp2
          go_roundw
          case rel => exact ⟨a + 1, by omega, by go_num, HBb.out, by rw [succ_mul']; exact HJb.out⟩
          case measure => simp [intOf]; omega
    · obtain rfl : a = n := by omega
      gi_wp2
      go_end0
      exact ⟨⟨_, rfl⟩, .inl ⟨tilesM z a (a * a), HN.out.symm, HJ.out⟩⟩

set_option maxHeartbeats 1000000 in
theorem tiles_any (z : Int) (w : World) : Calls Try.prog 35 #[.int .i64 z] w fun e w' => e = .returned (.func (.func 42) #[] #[.pointer (some ⟨w.heap.size, 0, none⟩)]) ∧ w' = w.alloc (.cells #[.int .i64 z] 3) := by
  go_enter Try.func35, Try.ntmps35
  go_wp2
  go_ret
  exact ⟨rfl, rfl⟩

theorem tiles_stops (m : Nat) (hm : 1 ≤ m) (Bn : Nat) (z : Int) (w : World) (hb : Boxed w Bn 3 (.int .i64 z)) :
    SeqStopsK Fence.wide m Try.prog 42 #[.pointer (some ⟨Bn, 0, none⟩)] (fun x : Tl => #[tv x]) (KpB Bn) (fun ys => ys = tilesL z) (fun pre => pre <+: tilesL z) (wideN z * wideN z) w := fun l J Jx W hW _ _ hY h0 =>
  tiles1_in m hm l Bn z J Jx hY W (Grows.block hW hb) h0
end Go.Proofs.Ytfhohgemfojjmaa
