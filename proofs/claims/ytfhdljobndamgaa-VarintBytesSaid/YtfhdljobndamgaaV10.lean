/-
  Layer 7: the chapter's examples.
-/
import Derived.Test.YtfhdljobndamgaaV9
import Derived.Test.YtfhdljobndamgaaV4
import Derived.Test.YtfhdljobndamgaaV2
namespace Go.Proofs.Ytfhdljobndamgaa
open Go.RowKit Go.Tab

theorem nums_block {k : IntKind} {w : World} {b : Nat} {E : TypeId} {cs : Array Value} {l : List Nat} (h : w.heap[b]? = some (.cells cs E (0, 0))) (hc : cs.toList = l.map fun x : Nat => .int k (x : Int)) (hl : l.length ≤ 17592186044416) :
    NumsAt k w (.slice (some ⟨b, 0, none⟩) l.length l.length) l := by
  refine ⟨hl, .inr ⟨b, 0, l.length, rfl, (Array.getElem?_eq_some_iff.1 h).1, Nat.le_refl _, fun i hi => ?_⟩⟩
  simp only [World.cell?, h, Nat.zero_add]
  show (if false = true then none else cs[i]?) = _
  have : cs.toList[i]? = some (.int k (l.getD i 0)) := by rw [hc, List.getElem?_map, List.getElem?_eq_getElem hi]; simp [List.getD_eq_getElem?_getD, hi]
  simpa using this

theorem NumsAt.u64 {w : World} {v : Value} {l : List Nat} (h : NumsAt .u64 w v l) : U64At w v l := by
  obtain ⟨hl, h | ⟨b, off, cap, hv, hb, _, hi⟩⟩ := h
  · exact ⟨hl, .inl h⟩
  · exact ⟨hl, .inr ⟨b, off, cap, hv, hb, hi⟩⟩

set_option maxRecDepth 100000 in
theorem kn_any (w : World) : Calls Try.prog 10 #[] w (Ret (.bool true) w) := by
  go_enter Try.func10, Try.ntmps10
  go_wp2_with fail
  have h1 := nums_block (k := .u8) (l := [128, 0]) (heap_new w (.cells #[.int .u8 128, .int .u8 0] 5) _ rfl) rfl (by decide)
  refine (read_any _ [128, 0] _ h1 (by decide)).mono ?_
  rw [show rd [128, 0] = (0, 0, 3) by decide]
  rintro _ w1 ⟨rfl, hg⟩
  have G1 := Lib.hid (((Grows.refl w).al _).trans hg)
  clear hg h1
  go_wp2_with fail
  have h2 := (nums_block (k := .u64) (l := [1, 300]) (heap_new w1 (.cells #[.int .u64 1, .int .u64 300] 23) _ rfl) rfl (by decide)).u64
  refine (bytes_any _ [1, 300] _ h2 (by decide) (by decide)).mono ?_
  rintro _ w2 ⟨v, rfl, hown, hg⟩
  have hv : NumsAt .u8 w2 v [1, 172, 2] := by
    have he : encs [1, 300] = [1, 172, 2] := by
      show enc 1 ++ (enc 300 ++ []) = _
      rw [enc_lt (n := 1) (by decide), enc_ge (n := 300) (by decide), enc_lt (n := 300 / 128) (by decide)]; rfl
    rw [he] at hown
    exact ownsRow_nums hown (by decide)
  have G2 := Lib.hid ((G1.out.al _).trans hg)
  clear hg h2 hown
  go_wp2_with fail
  have h3 := nums_block (k := .u8) (l := [1, 172, 2]) (heap_new w2 (.cells #[.int .u8 1, .int .u8 172, .int .u8 2] 5) _ rfl) rfl (by decide)
  refine (Same_any _ _ [1, 172, 2] [1, 172, 2] _ (hv.grows (Grows.alloc _ _)) h3).mono ?_
  rw [show decide (([1, 172, 2] : List Nat) = [1, 172, 2]) = true by decide]
  rintro _ w3 ⟨rfl, hg⟩
  have G3 := Lib.hid ((G2.out.al _).trans hg)
  clear hg h3 hv
  go_wp2_with fail
  refine (zig_any (-3) _ (by decide) (by decide)).mono ?_
  rw [show zig (-3) = 5 by decide]
  rintro _ w4 ⟨rfl, hg⟩
  have G4 := Lib.hid (G3.out.trans hg)
  clear hg
  go_wp2
  go_ret
  exact ⟨rfl, G4.out⟩
end Go.Proofs.Ytfhdljobndamgaa
