/-
  Layer 2: the library's insertion sort on cuts, and what compares them.
-/
import Derived.Test.YtlgplhanhnjeiaaS8
import Derived.Test.YtlgplhanhnjeiaaSo
namespace Go.Proofs.Ytlgplhanhnjeiaa
open Go.RowKit Go.Tab Go.Sort

def encC (c : Cut) : List Value := [.int .i64 c.1.1, .int .i64 c.1.2, .int .i64 c.2.1, .int .i64 c.2.2]
theorem encC_len (c : Cut) : (encC c).length = 4 := rfl
theorem encC_one (c : Cut) : ∀ v ∈ encC c, v.oneCell' = true := fun v hv => by
  simp [encC] at hv; rcases hv with rfl | rfl | rfl | rfl <;> rfl
theorem ccells_enc (l : List Cut) : ccells l = l.flatMap encC := rfl
/-- What compares two cuts. -/
def cmpC (p q : Cut) : Int := wrap64 (wrap64 (p.2.1 * q.2.2) - wrap64 (q.2.1 * p.2.2))

def insRen : Go.Shelf.Ren := ⟨fun | 20 => 44 | n => n, fun | 22 => 57 | 24 => 61 | 25 => 62 | n => n, fun n => n⟩
theorem insLay : SlLaysF0.n20 Try.prog insRen where
  mixed := by kernel_rfl
  f20 := ⟨"slices.insertionSortCmpFunc[graticule/seg.cut]", by decide, Try.func44.trans (congrArg some (by kernel_rfl))⟩
  t0 := Try.underlying0
  a0 := Try.isAgg0
  z0 := Try.sizeOf0
  v0 := Try.zeroValue0
  t3 := Try.underlying3
  a3 := Try.isAgg3
  z3 := Try.sizeOf3
  v3 := Try.zeroValue3
  t4 := Try.underlying4
  a4 := Try.isAgg4
  z4 := Try.sizeOf4
  v4 := Try.zeroValue4
  t22 := Try.underlying57
  a22 := Try.isAgg57
  z22 := Try.sizeOf57
  v22 := Try.zeroValue57
  t25 := Try.underlying62
  a25 := Try.isAgg62
  z25 := Try.sizeOf62
  v25 := Try.zeroValue62

set_option maxHeartbeats 1000000 in
/-- The closure: in whatever world: two blocks are laid. -/
theorem closure_any (x y : Cut) (W : World) : Calls Try.prog 31 #[.agg (encC x).toArray, .agg (encC y).toArray] W fun e w' => e = .returned (.int .i64 (cmpC x y)) ∧ ∃ q os', w' = grow (W.drewN q) os' := by
  obtain ⟨⟨xa, xb⟩, xf, xw⟩ := x
  obtain ⟨⟨ya, yb⟩, yf, yw⟩ := y
  unfold encC cmpC
  simp only
  go_enter Try.func31, Try.ntmps31
  go_wp2
  go_ret
  exact ⟨rfl, 0, _, by rw [alloc_eq_grow, alloc_eq_grow, grow_grow]; rfl⟩

theorem cmpLaysC (blk off size : Nat) (w : World) : CmpLays Try.prog 31 #[] encC 4 cmpC blk off size w :=
  fun _ _ _ _ x y => closure_any x y _
def insC (d : Array Cut) (a b : Nat) : Array Cut := Sort.insertionSort (ltOf cmpC) d a b
/-- The insertion sort of an owned row of cuts, between two places. -/
theorem ins_any (o : Value) (l : List Cut) (B a b : Nat) (w : World) (h : w.ownsRow B 61 4 o l.length (ccells l)) (hab : a ≤ b) (hb : b ≤ l.length) (hl : 0 < l.length) (hm : l.length ≤ 1000000) :
    Calls Try.prog 44 #[o, .int .i64 a, .int .i64 b, .func (.func 31) #[] #[]] w fun e w' => e = .returned (.tuple #[]) ∧
      w'.ownsRow B 61 4 o l.length (ccells (insC l.toArray a b).toList) ∧ w.grownBy w' o.ownBlock := by
  obtain ⟨-, ⟨-, hv⟩ | ⟨g, cap, cur, rfl, -, -, hc, -⟩⟩ := id h
  · omega
  have eg : ∀ args w, (callFunc 31 args).run Try.prog w = .ok (.enter 31 args) w := enters_of Try.func31 (by kernel_rfl) rfl
  obtain ⟨hH, -, hg⟩ := holdsK_own (d := l.toArray) encC_len (by omega) h (by simp)
  have hs : (insC l.toArray a b).size = l.length := by unfold insC; rw [size_insertion]; simp
  refine (AnyQ.insertionSortCmpFunc insLay 4 Try.isAgg61 Try.sizeOf61 encC encC_len encC_one cmpC 31 #[] g 0 cap a b l.toArray w eg (cmpLaysC _ _ _ _) hH hg hab (by simpa using hb) (by simp; omega)).mono ?_
  rintro e w' ⟨rfl, n, os, rfl⟩
  obtain ⟨h1, h2⟩ := own_sortWorldK encC_len (by omega) h (insC l.toArray a b) hs n os
  exact ⟨rfl, h1, h2⟩
end Go.Proofs.Ytlgplhanhnjeiaa
