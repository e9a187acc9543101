/-
  Layer 8: the chapter's examples.
-/
import Derived.Test.YtdiciboaehdckaaD20
import Derived.Test.YtdiciboaehdckaaV10
import Derived.Lib.SmallJoins
namespace Go.Proofs.Ytdiciboaehdckaa
open Go.RowKit Go.Tab Go.WideShapes

theorem nums_marked {k : IntKind} {w : World} {b : Nat} {E : TypeId} {cs : Array Value} {fr : Nat × Nat} {l : List Nat} (h : w.heap[b]? = some (.cells cs E fr)) (hc : cs.toList = l.map fun x : Nat => .int k (x : Int)) (hl : l.length ≤ 17592186044416) :
    NumsAt k w (.slice (some ⟨b, 0, none⟩) l.length l.length) l := by
  refine ⟨hl, .inr ⟨b, 0, l.length, rfl, (Array.getElem?_eq_some_iff.1 h).1, Nat.le_refl _, fun i hi => ?_⟩⟩
  have : cs.toList[i]? = some (.int k (l.getD i 0)) := by rw [hc, List.getElem?_map, List.getElem?_eq_getElem hi]; simp [List.getD_eq_getElem?_getD, hi]
  simp only [World.cell?, h, Nat.zero_add]
  show (if false = true then none else cs[i]?) = _
  simpa using this
theorem flds_two {w : World} {b : Nat} {T : TypeId} {f g : Fld} {u v : Value} (h : w.heap[b]? = some (.cells #[.int .i64 f.num, .int .i64 f.kind, .int .u64 (f.n : Int), u, .int .i64 g.num, .int .i64 g.kind, .int .u64 (g.n : Int), v] T (0, 0))) (hu : NumsAt .u8 w u f.bs) (hv : NumsAt .u8 w v g.bs) :
    FldsAt w (.slice (some ⟨b, 0, none⟩) 2 2) [f, g] := by
  refine .inr ⟨b, 0, 2, rfl, (Array.getElem?_eq_some_iff.1 h).1, Nat.le_refl _, fun i x hi => ?_⟩
  match i, hi with
  | 0, hi => cases hi; exact ⟨u, by simp [World.cell?, h], by simp [World.cell?, h], by simp [World.cell?, h], by simp [World.cell?, h], hu⟩
  | 1, hi => cases hi; exact ⟨v, by simp [World.cell?, h], by simp [World.cell?, h], by simp [World.cell?, h], by simp [World.cell?, h], hv⟩
theorem wr_known : wrF [⟨3, 2, 0, [97, 98]⟩, ⟨15, 0, 2, []⟩] = ([26, 2, 97, 98, 120, 2], 0) := by
  have h1 : okF ⟨3, 2, 0, [97, 98]⟩ = 0 := by decide
  have h2 : okF ⟨15, 0, 2, []⟩ = 0 := by decide
  rw [wrF_ok (fun i g hi hg => by
    match i, hg with
    | 0, hg => cases hg; exact h1
    | 1, hg => cases hg; exact h2)]
  have e1 : wrB ⟨3, 2, 0, [97, 98]⟩ = [26, 2, 97, 98] := by
    show enc 26 ++ (enc 2 ++ [97, 98]) = _
    rw [enc_lt (n := 26) (by decide), enc_lt (n := 2) (by decide)]; rfl
  have e2 : wrB ⟨15, 0, 2, []⟩ = [120, 2] := by
    show enc 120 ++ enc 2 = _
    rw [enc_lt (n := 120) (by decide), enc_lt (n := 2) (by decide)]; rfl
  simp only [List.flatMap_cons, List.flatMap_nil, e1, e2]
  rfl
theorem rdF_zero : rdF [0] = (⟨0, 0, 0, []⟩, 0, 5) := by
  have h : lk [0] = bad6 5 := by decide
  unfold rdF
  rw [h]
  rfl
theorem rdF_eleven : rdF [11] = (⟨0, 0, 0, []⟩, 0, 14) := by
  have h : lk [11] = bad6 14 := by decide
  unfold rdF
  rw [h]
  rfl
set_option maxRecDepth 100000 in
theorem kn8_any (w : World) : Calls Try.prog 12 #[] w (Ret (.bool true) w) := by
  have q0 := Lib.run_convert_bytes_const (P := Try.prog) w 24 5 #[.int .u8 97, .int .u8 98] 2 2 Try.underlying24 Try.underlying5
  go_enter Try.func12, Try.ntmps12
  go_wp2_with fail
  have hb : (w.alloc (.cells #[.int .u8 97, .int .u8 98] 5 (2, 3))).heap[w.heap.size]? = some (.cells #[.int .u8 97, .int .u8 98] 5 (2, 3)) := heap_new w _ _ rfl
  have hn := (nums_marked (k := .u8) (l := [97, 98]) hb rfl (by decide)).grows (Grows.alloc _ (.cells #[.int .i64 3, .int .i64 2, .int .u64 0, .slice (some ⟨w.heap.size, 0, none⟩) 2 2, .int .i64 15, .int .i64 0, .int .u64 2, .slice none 0 0] 41))
  have hf := flds_two (f := ⟨3, 2, 0, [97, 98]⟩) (g := ⟨15, 0, 2, []⟩) (heap_new (w.alloc (.cells #[.int .u8 97, .int .u8 98] 5 (2, 3))) (.cells #[.int .i64 3, .int .i64 2, .int .u64 0, .slice (some ⟨w.heap.size, 0, none⟩) 2 2, .int .i64 15, .int .i64 0, .int .u64 2, .slice none 0 0] 41) (w.heap.size + 1) (by simp only [World.size_alloc])) hn (nums_nil _)
  refine (write_any _ [⟨3, 2, 0, [97, 98]⟩, ⟨15, 0, 2, []⟩] _ hf (by decide) (fun f hf => ?_)).mono ?_
  · simp only [List.mem_cons, List.not_mem_nil, or_false] at hf
    rcases hf with rfl | rfl
    · exact ⟨by decide, by decide, by decide, by decide, by decide, by decide, by decide⟩
    · exact ⟨by decide, by decide, by decide, by decide, by decide, by decide, by decide⟩
  rw [wr_known]
  rintro _ w1 ⟨u1, rfl, hu, hg⟩
  have G1 := Lib.hid ((((Grows.refl w).al _).al _).trans hg)
  have U1 := Lib.hid hu
  clear hg hf hn hb hu q0
  go_wp2_with fail
  have h1 := nums_block (k := .u8) (l := [0]) (heap_new w1 (.cells #[.int .u8 0] 5) _ rfl) rfl (by decide)
  refine (read_field _ [0] _ h1 (by decide)).mono ?_
  rw [rdF_zero]
  rintro _ w2 ⟨bv2, rfl, hbv2, hg, -⟩
  obtain ⟨a2, c2, rfl⟩ := hbv2.shape
  have G2 := Lib.hid (((Grows.alloc w1 (.cells #[.int .u8 0] 5)).trans hg).al (.cells #[.int .i64 0, .int .i64 0, .int .u64 0, .slice a2 0 c2] 41))
  clear hg h1 hbv2
  unfold fldV
  go_wp2_with fail
  have h1 := nums_block (k := .u8) (l := [11]) (heap_new (w2.alloc (.cells #[.int .i64 0, .int .i64 0, .int .u64 0, .slice a2 0 c2] 41)) (.cells #[.int .u8 11] 5) (w2.heap.size + 1) (by simp only [World.size_alloc])) rfl (by decide)
  refine (read_field _ [11] _ h1 (by decide)).mono ?_
  rw [rdF_eleven]
  rintro _ w3 ⟨bv3, rfl, hbv3, hg, -⟩
  obtain ⟨a3, c3, rfl⟩ := hbv3.shape
  have G3 := Lib.hid ((((G2.out.al (.cells #[.int .u8 11] 5)).trans hg).al (.cells #[.int .i64 0, .int .i64 0, .int .u64 0, .slice a3 0 c3] 41)).al (.cells #[.int .u8 26, .int .u8 2, .int .u8 97, .int .u8 98, .int .u8 120, .int .u8 2] 5))
  clear hg h1 hbv3
  unfold fldV
  go_wp2_with fail
  have h1 := nums_block (k := .u8) (l := [26, 2, 97, 98, 120, 2]) (heap_new (w3.alloc (.cells #[.int .i64 0, .int .i64 0, .int .u64 0, .slice a3 0 c3] 41)) (.cells #[.int .u8 26, .int .u8 2, .int .u8 97, .int .u8 98, .int .u8 120, .int .u8 2] 5) (w3.heap.size + 1) (by simp only [World.size_alloc])) rfl (by decide)
  refine (Same_any _ _ [26, 2, 97, 98, 120, 2] [26, 2, 97, 98, 120, 2] _ (U1.out.grows G3.out) h1).mono ?_
  rw [show decide (([26, 2, 97, 98, 120, 2] : List Nat) = [26, 2, 97, 98, 120, 2]) = true by decide]
  rintro _ w4 ⟨rfl, hg⟩
  have G4 := Lib.hid ((G1.out.trans G3.out).trans hg)
  clear hg h1
  go_wp2
  go_ret
  exact ⟨rfl, G4.out⟩
end Go.Proofs.Ytdiciboaehdckaa
