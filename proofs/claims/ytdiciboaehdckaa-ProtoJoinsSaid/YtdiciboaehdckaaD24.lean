/-
  Layer 8: a message's fields, one by one: the function that is ranged over.
-/
import Derived.RangeFuncNested
import Derived.RangeFuncBound
import Derived.RangeFuncCalls
import Derived.RangeFuncLeaves
import Derived.RangeFuncBox
import Derived.Shelf.Abstract
import Derived.Shelf.RegionOpen
import Derived.WalkKit
import Derived.OwnWalkIn
import Derived.TacticsInMore
import Derived.LoopNIn
import Derived.LoopIn
import Derived.Maps.AppendAt
import Derived.Test.YtdiciboaehdckaaRf
import Derived.Test.YtdiciboaehdckaaD23
namespace Go.Proofs.Ytdiciboaehdckaa
open Go.RowKit Go.Tab Go.WideShapes Go.Shelf
attribute [local go_sem] Oper.semAt_some

/-- A step: a field, where its bytes lie, its place, its error. -/
structure Sx where
  f : Fld
  bv : Value
  place : Nat
  err : Nat
def sxV (x : Sx) : Value := .agg #[.int .i64 x.f.num, .int .i64 x.f.kind, .int .u64 (x.f.n : Int), x.bv, .int .i64 (x.place : Int), .int .i64 (x.err : Int)]
/-- Steps without an error, from the first byte up to a place. -/
inductive Chain (b : List Nat) : List Sx → Nat → Prop
  | nil : Chain b [] 0
  | snoc {pre : List Sx} {p : Nat} {x : Sx} : Chain b pre p → p < b.length → (rdF (b.drop p)).2.2 = 0 → x.f = (rdF (b.drop p)).1 → Chain b (pre ++ [x]) (p + (rdF (b.drop p)).2.1)
/-- What is said of a step at its yield. -/
def Yx (b : List Nat) (pre : List Sx) (x : Sx) (V : World) : Prop := ∃ p, Chain b pre p ∧ p < b.length ∧ x.f = (rdF (b.drop p)).1 ∧ x.place = p ∧ x.err = (rdF (b.drop p)).2.2 ∧ OwnB V (x.f, x.bv)
/-- A block, and all below another, stay. -/
def KpS (n Bn : Nat) (A C : World) : Prop := Below n A C ∧ ∀ o, A.heap[Bn]? = some o → C.heap[Bn]? = some o

set_option maxRecDepth 100000 in
set_option maxHeartbeats 4000000 in
theorem steps1_in (m : Nat) (hm : 1 ≤ m) (l Bn : Nat) (v : Value) (b : List Nat) (w : World) (hv : NumsAt .u8 w v b) (hx : ∀ x ∈ b, x < 256) (hl : b.length ≤ 1000000) (J Jx : List Sx → World → Prop) (hJ : ∀ pre A C, J pre A → Grows A C → J pre C)
    (hY : ∀ pre x V, J pre V → Yx b pre x V → YieldAt Fence.wide (m - 1) Try.prog l #[sxV x] V fun e V' =>
      (e = .returned (.bool true) ∧ J (pre ++ [x]) V' ∧ KpS w.heap.size Bn V V') ∨ (e = .returned (.bool false) ∧ Jx (pre ++ [x]) V'))
    (W : World) (hW : Grows w W) (hbx : Boxed W Bn 24 v) (h0 : J [] W) :
    CallsIn Fence.wide m Try.prog 37 #[.func (.yield l) #[] #[], .pointer (some ⟨Bn, 0, none⟩)] W fun e W' => (∃ v, e = .returned v) ∧
      ((∃ ys, ((∃ p, Chain b ys p ∧ b.length ≤ p) ∨ ∃ pre x, ys = pre ++ [x] ∧ x.err ≠ 0) ∧ J ys W') ∨ (∃ pre, True ∧ Jx pre W')) := by
  obtain ⟨a, c, rfl⟩ := hv.shape
  have HV := Lib.hid hv
  have HX := Lib.hid hx
  obtain ⟨n, hn⟩ : ∃ n, n = b.length := ⟨_, rfl⟩
  rw [← hn] at hl hbx HV ⊢
  have HN := Lib.hid hn
  have HB := Lib.hid hbx
  have hc := hbx.cell
  have HY := Lib.hid hY
  have HJ := Lib.hid hJ
  have HW := Lib.hid hW
  have H0 := Lib.hid h0
  clear hv hx hn hY hbx hJ hW h0
  refine callsIn_of_wp Try.func37 rfl trivial ?_ rfl
  simp only [Try.ntmps37, List.size_toArray, List.length_cons, List.length_nil, Nat.reduceAdd, Nat.reduceSub, Array.replicate_succ, Array.replicate_zero, List.push_toArray, List.append_toArray, List.nil_append, List.cons_append]
  gi_wp2
  gi_loopw [3] (fun i wr => ∃ (p : Nat) (pre : List Sx), p ≤ n ∧ i = .int .i64 (p : Int) ∧ Hid (Chain b pre p) ∧ Hid (Boxed wr Bn 24 (.slice a n c)) ∧ Hid (Grows w wr) ∧ Hid (J pre wr)) (fun i _ => n - (intOf i).toNat)
  case atStart => exact ⟨0, [], Nat.zero_le _, rfl, Lib.hid .nil, HB, HW, H0⟩
  case round =>
    obtain ⟨p, pre, hpn, rfl, HC, HBr, HG, HJr⟩ := hrel
    have hcr := HBr.out.cell
    clear hc
    by_cases hlt : p < n
    · obtain ⟨ba, oa, rfl, hba, -⟩ := HV.out.at_ (i := p) (by rw [← HN.out]; exact hlt)
      have hpc : p < c ∧ n ≤ c := by
        obtain ⟨_, ⟨_, h0⟩ | ⟨_, _, c', hv, _, hc', _⟩⟩ := HV.out
        · have := HN.out; rw [h0] at this; simp at this; omega
        · injection hv with _ _ hv; have := HN.out; omega
      obtain ⟨hpc, hnc⟩ := hpc
      have hxd : ∀ x ∈ b.drop p, x < 256 := fun x h => HX.out x (List.mem_of_mem_drop h)
      have HRD := Lib.hid (read_field _ _ wr ((nums_drop HV.out HN.out (Nat.le_of_lt hlt)).grows HG.out) hxd)
      have HSN : Hid (∀ x : Sx, (rdF (b.drop p)).2.2 = 0 → x.f = (rdF (b.drop p)).1 → Chain b (pre ++ [x]) (p + (rdF (b.drop p)).2.1)) := Lib.hid (fun x h1 h2 => .snoc HC.out (by rw [← HN.out]; exact hlt) h1 h2)
      have HYX : Hid (∀ (bv : Value) (V : World), OwnB V ((rdF (b.drop p)).1, bv) → Yx b pre ⟨(rdF (b.drop p)).1, bv, p, (rdF (b.drop p)).2.2⟩ V) := Lib.hid (fun bv V h => ⟨p, HC.out, by rw [← HN.out]; exact hlt, rfl, rfl, rfl, h⟩)
      have Hsz := Lib.hid (rdF_size (b.drop p) hxd)
      have Hle : Hid ((b.drop p).length = n - p) := Lib.hid (by rw [List.length_drop, HN.out])
      rw [Hle.out] at Hsz
      generalize rdF (b.drop p) = q at HRD HSN HYX Hsz
      obtain ⟨⟨num, kind, fn, bs⟩, s, er⟩ := q
      simp only at HSN HYX Hsz
      unfold RetRead fldV at HRD
      simp only at HRD
      clear hxd hba
      gi_wp2_with (refine ⟨trivial, ?_⟩; gi_at_call 16; refine (callsIn_wide.2 HRD.out).mono ?_; rintro e w2 ⟨bv, rfl, hbv, hg, hob⟩; obtain ⟨av, cv, hsv⟩ := hbv.shape; generalize bs.length = ln at hsv; subst hsv; have HBV := Lib.hid (OwnB.grows (p := (⟨num, kind, fn, bs⟩, .slice av ln cv)) hob (Grows.alloc w2 (.cells #[.int .i64 num, .int .i64 kind, .int .u64 (fn : Int), .slice av ln cv] 41))); have HG2 := Lib.hid (hg.al (.cells #[.int .i64 num, .int .i64 kind, .int .u64 (fn : Int), .slice av ln cv] 41)); clear hg hbv hob)
      have HB2 := Lib.hid (show Boxed (w2.alloc (.cells #[.int .i64 num, .int .i64 kind, .int .u64 (fn : Int), .slice av ln cv] 41)) Bn 24 (.slice (some ⟨ba, oa, none⟩) n c) from HG2.out.block HBr.out)
      have HJ2 := Lib.hid (HJ.out _ _ _ HJr.out HG2.out)
      have HGG := Lib.hid (HG.out.trans HG2.out)
      obtain ⟨fn0, tmps0, assign0, body0, hy, hR⟩ := HY.out pre _ _ HJ2.out (HYX.out _ _ HBV.out)
      unfold sxV at hy
      simp only at hy
      clear HBr HG HJr HRD HBV hcr
      by_cases he : er = 0
      · obtain ⟨hs1, hs2⟩ := Hsz.out he
        have HC2 := Lib.hid (HSN.out ⟨⟨num, kind, fn, bs⟩, .slice av ln cv, p, er⟩ he rfl)
        have bz : ((er : Int) != 0) = false := by simp [he]
        clear he
        clear Hsz HSN HYX
        gi_wp2
        rw [hy, Oper.uponIn_round]
        refine ⟨fun _ => hm, hR.mono ?_⟩
        rintro e W3 (⟨rfl, hJ3, hk3⟩ | ⟨rfl, hJx3⟩)
        · have HB3 := Lib.hid (show Boxed W3 Bn 24 (.slice (some ⟨ba, oa, none⟩) n c) from hk3.2 _ HB2.out)
          have HJ3 := Lib.hid hJ3
          have HG3 := Lib.hid (show Grows w W3 from Below.trans HGG.out hk3.1)
          clear hJ3 hk3 hy hR
          gi_wp2
          go_roundw
          case rel => exact ⟨p + s, _, by omega, by go_num, HC2, HB3, HG3, HJ3⟩
          case measure => simp [intOf]; omega
        · have HJ3 := Lib.hid hJx3
          clear hJx3 hy hR
          gi_wp2
          refine bodyPost_ret (results_none rfl _ _ _) rfl ?_
          exact ⟨⟨_, rfl⟩, .inr ⟨_, trivial, HJ3.out⟩⟩
      · have bn : ((er : Int) != 0) = true := by simpa using he
        have HE := Lib.hid he
        clear Hsz HSN HYX he
        gi_wp2
        rw [hy, Oper.uponIn_round]
        refine ⟨fun _ => hm, hR.mono ?_⟩
        rintro e W3 (⟨rfl, hJ3, hk3⟩ | ⟨rfl, hJx3⟩)
        · have HJ3 := Lib.hid hJ3
          clear hJ3 hk3 hy hR
          gi_wp2
          refine bodyPost_ret (results_none rfl _ _ _) rfl ?_
          exact ⟨⟨_, rfl⟩, .inl ⟨_, .inr ⟨_, _, rfl, HE.out⟩, HJ3.out⟩⟩
        · have HJ3 := Lib.hid hJx3
          clear hJx3 hy hR
          gi_wp2
          refine bodyPost_ret (results_none rfl _ _ _) rfl ?_
          exact ⟨⟨_, rfl⟩, .inr ⟨_, trivial, HJ3.out⟩⟩
    · obtain rfl : p = n := by omega
      gi_wp2
      go_end0
      exact ⟨⟨_, rfl⟩, .inl ⟨pre, .inl ⟨p, HC.out, Nat.le_refl _⟩, HJr.out⟩⟩
end Go.Proofs.Ytdiciboaehdckaa
