/-
  Layer 8: reading a field; how many bytes it has.
-/
import Derived.Test.YtdiciboaehdckaaD5
import Derived.Deep.OwnRows
import Derived.Laws.CopyOwn
namespace Go.Proofs.Ytdiciboaehdckaa
open Go.RowKit Go.Tab

structure Fld where
  num : Int
  kind : Int
  n : Nat
  bs : List Nat
/-- The field, how many bytes, the error. -/
def rdF (l : List Nat) : Fld × Nat × Nat :=
  if ¬ (lk l).2.2.2.2.2 = 0 then (⟨0, 0, 0, []⟩, 0, (lk l).2.2.2.2.2) else
  (⟨(lk l).1, (lk l).2.1, if (lk l).2.1 = 1 ∨ (lk l).2.1 = 5 then fromL ((l.drop (lk l).2.2.2.1).take (lk l).2.2.2.2.1) else (lk l).2.2.1, if (lk l).2.1 = 2 then (l.drop (lk l).2.2.2.1).take (lk l).2.2.2.2.1 else []⟩, (lk l).2.2.2.1 + (lk l).2.2.2.2.1, 0)
def fldV (f : Fld) (bv : Value) : Value := .agg #[.int .i64 f.num, .int .i64 f.kind, .int .u64 (f.n : Int), bv]
/-- The call hands back a field and two numbers; the field's bytes lie in memory. -/
def RetRead (q : Fld × Nat × Nat) (w : World) (e : Ending) (w' : World) : Prop :=
  ∃ bv, e = .returned (.tuple #[fldV q.1 bv, .int .i64 (q.2.1 : Int), .int .i64 (q.2.2 : Int)]) ∧ NumsAt .u8 w' bv q.1.bs ∧ Grows w w' ∧ w'.ownsRow 0 5 1 bv q.1.bs.length (q.1.bs.map u8v)
theorem nums_nil (w : World) : NumsAt .u8 w (.slice none 0 0) [] := ⟨by simp, .inl ⟨⟨_, _, rfl, fun _ => rfl⟩, rfl⟩⟩

set_option maxHeartbeats 1000000 in
theorem skip_any (v : Value) (l : List Nat) (w : World) (hp : NumsAt .u8 w v l) (hx : ∀ x ∈ l, x < 256) (hb : (lk l).2.2.2.1 + (lk l).2.2.2.2.1 ≤ 17592186044416) : Calls Try.prog 18 #[v] w (Ret (.tuple #[.int .i64 (((lk l).2.2.2.1 + (lk l).2.2.2.2.1 : Nat) : Int), .int .i64 ((lk l).2.2.2.2.2 : Int)]) w) := by
  have HL := Lib.hid (look_any v l w hp hx)
  obtain ⟨a, c, rfl⟩ := hp.shape
  generalize lk l = q at HL hb ⊢
  obtain ⟨q1, q2, q3, q4, q5, q6⟩ := q
  simp only at hb ⊢
  go_enter Try.func18, Try.ntmps18
  go_wp2_with fail
  refine HL.out.mono ?_
  rintro _ w1 ⟨rfl, hg⟩
  have G := Lib.hid hg
  clear hg
  unfold lookV
  go_wp2
  go_ret2
  exact ⟨by simp, G.out.al _⟩

set_option maxHeartbeats 1000000 in
theorem read_bad (v : Value) (w : World) (q : Six) (HL : Hid (Calls Try.prog 30 #[v] (w.alloc fz) (Ret (lookV q) (w.alloc fz)))) (he : ¬ q.2.2.2.2.2 = 0) : Calls Try.prog 16 #[v] w (RetRead (⟨0, 0, 0, []⟩, 0, q.2.2.2.2.2) w) := by
  obtain ⟨q1, q2, q3, q4, q5, q6⟩ := q
  simp only at he ⊢
  have b6 : ((q6 : Int) != 0) = true := by simpa using he
  clear he
  go_enter Try.func16, Try.ntmps16
  go_wp2_with fail
  refine HL.out.mono ?_
  rintro _ w1 ⟨rfl, hg⟩
  have h1 := hg.block (heap_new w fz _ rfl)
  obtain ⟨c0, c1, c2, c3⟩ := cells4f h1
  have f0 := frozz h1 0
  have f1 := frozz h1 1
  have f2 := frozz h1 2
  have f3 := frozz h1 3
  have G := Lib.hid (((Grows.refl w).al _).trans hg)
  have hz := hg.size
  rw [World.size_alloc] at hz
  have hw : w.heap.size < w1.heap.size := by omega
  clear hg h1 hz
  unfold lookV
  go_wp2
  exact bodyPost_ret (v := .tuple #[.agg #[.int .i64 0, .int .i64 0, .int .u64 0, .slice none 0 0], .int .i64 0, .int .i64 (q6 : Int)]) (by simp [results, Try.results16, go_sem, c0, c1, c2, c3, hw, Nat.ne_of_lt hw]) rfl ⟨.slice none 0 0, rfl, nums_nil _, ((((G.out.st (Nat.le_refl _) _).st (Nat.le_refl _) _).st (Nat.le_refl _) _).st (Nat.le_refl _) _).al _, World.ownsRow_nil _ _ _ _⟩

/-- What a good look is. -/
structure Good (l : List Nat) (num kind n head size : Nat) : Prop where
  h1 : 1 ≤ head
  fit : head + size ≤ l.length
  num1 : 1 ≤ num
  num2 : num ≤ 536870911
  kinds : (kind = 0 ∧ size = 0) ∨ (kind = 1 ∧ size = 8 ∧ n = 0) ∨ (kind = 2 ∧ n = 0) ∨ (kind = 5 ∧ size = 4 ∧ n = 0)
  lt : n < 18446744073709551616
theorem lk_cases (l : List Nat) (hx : ∀ x ∈ l, x < 256) : (∃ e, e ≠ 0 ∧ lk l = bad6 e) ∨ ∃ num kind n head size, lk l = (num, kind, n, head, size, 0) ∧ Good l num kind n head size := by
  have hs := rd_size l
  have hs2 := rd_size (l.drop (rd l).2.1)
  have hl2 := rd_lt (l.drop (rd l).2.1) (fun x h => hx x (List.mem_of_mem_drop h))
  unfold lk
  split
  · exact .inl ⟨_, ‹_›, rfl⟩
  · rename_i h0
    obtain ⟨a1, a2⟩ := hs (by omega)
    split
    · exact .inl ⟨5, by decide, rfl⟩
    · rename_i hnum
      split
      · exact .inl ⟨14, by decide, rfl⟩
      · rename_i hk
        split
        · rename_i k1
          split
          · exact .inl ⟨4, by decide, rfl⟩
          · exact .inr ⟨_, _, _, _, _, rfl, a1, by omega, by omega, by omega, .inr (.inl ⟨k1, rfl, rfl⟩), by decide⟩
        · split
          · rename_i k5
            split
            · exact .inl ⟨4, by decide, rfl⟩
            · exact .inr ⟨_, _, _, _, _, rfl, a1, by omega, by omega, by omega, .inr (.inr (.inr ⟨k5, rfl, rfl⟩)), by decide⟩
          · rename_i k1 k5
            split
            · exact .inl ⟨_, ‹_›, rfl⟩
            · rename_i e2
              obtain ⟨b1, b2⟩ := hs2 (by omega)
              rw [List.length_drop] at b2
              split
              · rename_i k0
                exact .inr ⟨_, _, _, _, _, rfl, by omega, by omega, by omega, by omega, .inl ⟨k0, rfl⟩, hl2⟩
              · rename_i k0
                split
                · exact .inl ⟨4, by decide, rfl⟩
                · refine .inr ⟨_, _, _, _, _, rfl, by omega, by omega, by omega, by omega, .inr (.inr (.inl ⟨?_, rfl⟩)), by decide⟩
                  have : kindB (((rd l).1 % 8 : Nat) : Int) = true := by simpa using hk
                  simp only [kindB, decide_eq_true_eq] at this
                  omega

set_option maxHeartbeats 1000000 in
theorem read_word (l : List Nat) (ba oa n c num kind head size : Nat) (w : World) (HL : Hid (Calls Try.prog 30 #[.slice (some ⟨ba, oa, none⟩) n c] (w.alloc fz) (Ret (lookV (num, kind, 0, head, size, 0)) (w.alloc fz))))
    (hnc : n ≤ c) (hf : head + size ≤ n) (hs : 0 < size) (hn9 : n ≤ 17592186044416) (b : Bool) (b1 : ((kind : Int) == 1) = b) (b5 : b = false → ((kind : Int) == 5) = true) (F : Nat)
    (HF : Hid (∀ w', Grows w w' → Calls Try.prog 31 #[.slice (some ⟨ba, oa + head, none⟩) size (c - head)] w' (Ret (.int .u64 (F : Int)) w'))) :
    Calls Try.prog 16 #[.slice (some ⟨ba, oa, none⟩) n c] w (RetRead (⟨num, kind, F, []⟩, head + size, 0) w) := by
  have hhc : head < c := by omega
  cases b
  all_goals
    try have b5 := b5 rfl
    go_enter Try.func16, Try.ntmps16
    go_wp2_with fail
    refine HL.out.mono ?_
    rintro _ w1 ⟨rfl, hg⟩
    have h1 := hg.block (heap_new w fz _ rfl)
    obtain ⟨c0, c1, c2, c3⟩ := cells4f h1
    have f0 := frozz h1 0
    have f1 := frozz h1 1
    have f2 := frozz h1 2
    have f3 := frozz h1 3
    have G := Lib.hid (((Grows.refl w).al _).trans hg)
    have hz := hg.size
    rw [World.size_alloc] at hz
    have hw : w.heap.size < w1.heap.size := by omega
    have H1 := Lib.hid h1
    clear hg h1 hz
    unfold lookV
    go_wp2_with fail
    refine (HF.out _ (G.out.al _)).mono ?_
    rintro _ w2 ⟨rfl, hg⟩
    have h1 := hg.block ((Grows.alloc _ _).block H1.out)
    have h2 := hg.block (heap_new _ _ _ rfl)
    have G2 := Lib.hid ((G.out.al _).trans hg)
    clear c0 c1 c2 c3 f0 f1 f2 f3 hg
    obtain ⟨c0, c1, c2, c3⟩ := cells4f h1
    have f0 := frozz h1 0
    have f1 := frozz h1 1
    have f2 := frozz h1 2
    have f3 := frozz h1 3
    obtain ⟨d0, d1, d2, d3⟩ := cells4f h2
    have e2 := frozz h2 2
    clear h1 h2
    have hne : w.heap.size ≠ w1.heap.size := Nat.ne_of_lt hw
    go_wp2
    exact bodyPost_ret (v := .tuple #[.agg #[.int .i64 (num : Int), .int .i64 (kind : Int), .int .u64 (F : Int), .slice none 0 0], .int .i64 ((head : Int) + (size : Int)), .int .i64 0]) (by simp [results, Try.results16, go_sem, c0, c1, c2, c3, hne]) rfl ⟨.slice none 0 0, by simp [fldV], nums_nil _, ((((G2.out.st (Nat.le_of_lt hw) _).st (Nat.le_refl _) _).st (Nat.le_refl _) _).st (Nat.le_refl _) _).st (Nat.le_refl _) _, World.ownsRow_nil _ _ _ _⟩

set_option maxHeartbeats 1000000 in
theorem read_number (l : List Nat) (ba oa n c num N head : Nat) (w : World) (HL : Hid (Calls Try.prog 30 #[.slice (some ⟨ba, oa, none⟩) n c] (w.alloc fz) (Ret (lookV (num, 0, N, head, 0, 0)) (w.alloc fz))))
    (hnc : n ≤ c) (hf : head ≤ n) (hn9 : n ≤ 17592186044416) :
    Calls Try.prog 16 #[.slice (some ⟨ba, oa, none⟩) n c] w (RetRead (⟨num, 0, N, []⟩, head, 0) w) := by
  have hhc : head = c ∨ head < c := by omega
  rcases hhc with hhc | hhc
  all_goals
    try subst hhc
    go_enter Try.func16, Try.ntmps16
    go_wp2_with fail
    refine HL.out.mono ?_
    rintro _ w1 ⟨rfl, hg⟩
    have h1 := hg.block (heap_new w fz _ rfl)
    obtain ⟨c0, c1, c2, c3⟩ := cells4f h1
    have f0 := frozz h1 0
    have f1 := frozz h1 1
    have f2 := frozz h1 2
    have f3 := frozz h1 3
    have G := Lib.hid (((Grows.refl w).al _).trans hg)
    have hz := hg.size
    rw [World.size_alloc] at hz
    have hw : w.heap.size < w1.heap.size := by omega
    clear hg h1 hz
    unfold lookV
    go_wp2
    exact bodyPost_ret (v := .tuple #[.agg #[.int .i64 (num : Int), .int .i64 0, .int .u64 (N : Int), .slice none 0 0], .int .i64 (head : Int), .int .i64 0]) (by simp [results, Try.results16, go_sem, c0, c1, c2, c3, hw, Nat.ne_of_lt hw]) rfl ⟨.slice none 0 0, by simp [fldV], nums_nil _, ((((G.out.st (Nat.le_refl _) _).st (Nat.le_refl _) _).st (Nat.le_refl _) _).st (Nat.le_refl _) _).al _, World.ownsRow_nil _ _ _ _⟩

theorem hsz1 : (Try.prog.info? 5).map (·.size) = some 1 := by kernel_rfl
theorem nums_one (l : List Nat) : ∀ v ∈ l.map u8v, v.oneCell' = true := fun v hv => by
  obtain ⟨x, _, rfl⟩ := List.mem_map.1 hv
  rfl
theorem splice_all {w2 : World} {g size : Nat} {T : TypeId} {cs : List Value} (h : w2.heap[g]? = some (.cells (splice (madeCells #[.int .u8 0] size).toList 0 cs).toArray T (0, 0))) (hn : cs.length = Nat.min size size) : w2.heap[g]? = some (.cells cs.toArray T (0, 0)) := by
  have : splice (madeCells #[.int .u8 0] size).toList 0 cs = cs := by
    unfold splice
    rw [List.take_zero, List.nil_append, Nat.zero_add, List.drop_of_length_le, List.append_nil]
    rw [Array.length_toList, size_madeCells, hn]
    exact Nat.le_of_eq (Nat.min_self size).symm
  rw [this] at h
  exact h
theorem nums_of_block {w : World} {g n : Nat} {T : TypeId} {bs : List Nat} (h : w.heap[g]? = some (.cells (bs.map u8v).toArray T (0, 0))) (hn : bs.length = n ∧ n ≤ 17592186044416) : NumsAt .u8 w (.slice (some ⟨g, 0, none⟩) n n) bs := by
  obtain ⟨rfl, h9⟩ := hn
  refine ⟨h9, .inr ⟨g, 0, bs.length, rfl, (Array.getElem?_eq_some_iff.1 h).1, Nat.le_refl _, fun i hi => ?_⟩⟩
  simp [World.cell?, h, hi, List.getD]
theorem own_of_block {w : World} {g n : Nat} {T : TypeId} {bs : List Nat} (h : w.heap[g]? = some (.cells (bs.map u8v).toArray T (0, 0))) (hn : bs.length = n ∧ n ≤ 17592186044416) : w.ownsRow 0 T 1 (.slice (some ⟨g, 0, none⟩) n n) bs.length (bs.map u8v) := by
  obtain ⟨rfl, h9⟩ := hn
  exact ⟨by simp, .inr ⟨g, bs.length, _, rfl, Nat.zero_le _, h, Nat.le_refl _, by unfold maxLen; omega, by simp, by rw [Nat.mul_one]; exact List.take_of_length_le (by simp)⟩⟩
theorem read_old {w w1 w2 : World} {X : Obj} (h1 : w1.heap[w.heap.size]? = some fz) (hb : Below (w1.heap.size + 1) (w1.alloc X) w2) (hw : w.heap.size < w1.heap.size) : w2.heap[w.heap.size]? = some fz :=
  (hb.block _ (by omega)).trans ((Below.heap_alloc _ _ _ hw).trans h1)
set_option maxHeartbeats 1000000 in
theorem read_bytes (bs : List Nat) (ba oa n c num head size : Nat) (w : World) (HL : Hid (Calls Try.prog 30 #[.slice (some ⟨ba, oa, none⟩) n c] (w.alloc fz) (Ret (lookV (num, 2, 0, head, size, 0)) (w.alloc fz))))
    (hnc : n ≤ c) (hf : head + size ≤ n) (hn9 : n ≤ 17592186044416) (hbl : Hid (bs.length = size)) (hba : ba < w.heap.size) (hb : Hid (∀ j, j < size → w.cell? ⟨ba, oa + head + j, none⟩ = some (.int .u8 (bs.getD j 0)))) (hhc : head < c) :
    Calls Try.prog 16 #[.slice (some ⟨ba, oa, none⟩) n c] w (RetRead (⟨num, 2, 0, bs⟩, head + size, 0) w) := by
  obtain ⟨i0, hi, hz0, hz1, hz2⟩ := info_parts info8
  have hln : (bs.map u8v).length = Nat.min size size := by rw [List.length_map, hbl.out]; exact (Nat.min_self _).symm
  have HLN := Lib.hid hln
  clear hln
  have HPOS : Hid (∀ W, Grows w W → 0 < (bs.map u8v).length → ∃ ad, some (⟨ba, oa + head, none⟩ : Addr) = some ad ∧ ∀ j v, (bs.map u8v)[j]? = some v → W.cell? (ad.add j) = some v) := Lib.hid (fun W hW _ => ⟨_, rfl, fun j v hj => by
    rw [List.getElem?_map] at hj
    cases hlj : bs[j]? with
    | none => rw [hlj] at hj; cases hj
    | some y =>
      rw [hlj] at hj
      cases hj
      have hjl : j < bs.length := (List.getElem?_eq_some_iff.1 hlj).1
      rw [Tab.add_at, Below.cell hW (p := ⟨ba, oa + head + j, none⟩) hba, hb.out j (by rw [← hbl.out]; exact hjl)]
      simp [List.getD, hlj]⟩)
  go_enter Try.func16, Try.ntmps16
  go_wp2_with fail
  refine HL.out.mono ?_
  rintro _ w1 ⟨rfl, hg⟩
  have h1 := hg.block (heap_new w fz _ rfl)
  obtain ⟨c0, c1, c2, c3⟩ := cells4f h1
  have f0 := frozz h1 0
  have f1 := frozz h1 1
  have f2 := frozz h1 2
  have f3 := frozz h1 3
  have G := Lib.hid (((Grows.refl w).al _).trans hg)
  have H1 := Lib.hid h1
  have hz := hg.size
  rw [World.size_alloc] at hz
  have hw : w.heap.size < w1.heap.size := by omega
  clear hg h1 hz
  unfold lookV
  go_wp2_with (first | (refine wpList_make_row _ rfl _ _ 24 rfl 5 i0 (.int .u8 0) Try.underlying24 hi hz0 hz1 rfl .i64 .i64 size rfl rfl (by rw [hz2]; omega) (by omega) ?_) | (refine wpList_copy_splice rfl (.tmp 41) (.tmp 42) 24 24 rfl 5 Try.underlying24 hsz1 (some ⟨w1.heap.size + 1, 0, none⟩) (some ⟨ba, oa + head, none⟩) size size size (c - head) rfl rfl (w1.heap.size + 1) 0 (madeCells #[.int .u8 0] size).toList 5 (heap_new _ _ _ (by simp only [World.size_alloc])) (bs.map u8v) HLN.out (fun hp => ⟨rfl, HPOS.out _ ((G.out.al _).al _) hp⟩) (by simp only [size_madeCells, Array.length_toList]; rw [HLN.out]; simp [Nat.min_self]) (nums_one _) (w1.heap.size + 1) (w1.alloc (.cells #[.int .i64 (num : Int), .int .i64 2, .int .u64 0, .slice (some ⟨w1.heap.size + 1, 0, none⟩) size size] 41)) ((Below.refl _ _).alloc (by simp only [World.size_alloc]; exact Nat.le_refl _) _) (Nat.le_refl _) ?_; intro w2 hw2 hb2; have HW2 := Lib.hid (splice_all hw2.out HLN.out); have HB2 := Lib.hid hb2; have q1 := read_old H1.out hb2 (by omega); have q2 := (hb2.block w1.heap.size (by omega)).trans (heap_new w1 _ _ rfl); have G2 := Lib.hid ((G.out.al _).trans (hb2.mono (by simp only [World.size_alloc]; exact Nat.le_refl _))); clear hw2 hb2 c0 c1 c2 c3 f0 f1 f2 f3; obtain ⟨c0, c1, c2, c3⟩ := cells4f q1; have f0 := frozz q1 0; have f1 := frozz q1 1; have f2 := frozz q1 2; have f3 := frozz q1 3; obtain ⟨d0, d1, d2, d3⟩ := cells4f q2; clear q1 q2))
  exact bodyPost_ret (v := .tuple #[.agg #[.int .i64 (num : Int), .int .i64 2, .int .u64 0, .slice (some ⟨w1.heap.size + 1, 0, none⟩) size size], .int .i64 ((head : Int) + (size : Int)), .int .i64 0]) (by simp [results, Try.results16, go_sem, c0, c1, c2, c3]) rfl ⟨.slice (some ⟨w1.heap.size + 1, 0, none⟩) size size, by simp [fldV], nums_of_block ((set4o (by omega)).trans HW2.out) ⟨hbl.out, by omega⟩, (((G2.out.st (Nat.le_refl _) _).st (Nat.le_refl _) _).st (Nat.le_refl _) _).st (Nat.le_refl _) _, own_of_block ((set4o (by omega)).trans HW2.out) ⟨hbl.out, by omega⟩⟩

set_option maxHeartbeats 1000000 in
theorem read_none (ba oa n num : Nat) (w : World) (HL : Hid (Calls Try.prog 30 #[.slice (some ⟨ba, oa, none⟩) n n] (w.alloc fz) (Ret (lookV (num, 2, 0, n, 0, 0)) (w.alloc fz)))) (hn9 : n ≤ 17592186044416) :
    Calls Try.prog 16 #[.slice (some ⟨ba, oa, none⟩) n n] w (RetRead (⟨num, 2, 0, []⟩, n, 0) w) := by
  obtain ⟨i0, hi, hz0, hz1, hz2⟩ := info_parts info8
  have HLN : Hid (([] : List Value).length = Nat.min 0 0) := Lib.hid rfl
  go_enter Try.func16, Try.ntmps16
  go_wp2_with fail
  refine HL.out.mono ?_
  rintro _ w1 ⟨rfl, hg⟩
  have h1 := hg.block (heap_new w fz _ rfl)
  obtain ⟨c0, c1, c2, c3⟩ := cells4f h1
  have f0 := frozz h1 0
  have f1 := frozz h1 1
  have f2 := frozz h1 2
  have f3 := frozz h1 3
  have G := Lib.hid (((Grows.refl w).al _).trans hg)
  have H1 := Lib.hid h1
  have hz := hg.size
  rw [World.size_alloc] at hz
  have hw : w.heap.size < w1.heap.size := by omega
  clear hg h1 hz
  unfold lookV
  go_wp2_with (first | (refine wpList_make_row _ rfl _ _ 24 rfl 5 i0 (.int .u8 0) Try.underlying24 hi hz0 hz1 rfl .i64 .i64 0 rfl rfl (by rw [hz2]; omega) (by omega) ?_) | (refine wpList_copy_splice rfl (.tmp 41) (.tmp 42) 24 24 rfl 5 Try.underlying24 hsz1 (some ⟨w1.heap.size + 1, 0, none⟩) (some ⟨ba, oa, none⟩) 0 0 0 (0) rfl rfl (w1.heap.size + 1) 0 (madeCells #[.int .u8 0] 0).toList 5 (heap_new _ _ _ (by simp only [World.size_alloc])) [] HLN.out (fun hp => absurd hp (by simp)) (by simp only [size_madeCells, Array.length_toList]; rw [HLN.out]; simp [Nat.min_self]) (fun v hv => by cases hv) (w1.heap.size + 1) (w1.alloc (.cells #[.int .i64 (num : Int), .int .i64 2, .int .u64 0, .slice (some ⟨w1.heap.size + 1, 0, none⟩) 0 0] 41)) ((Below.refl _ _).alloc (by simp only [World.size_alloc]; exact Nat.le_refl _) _) (Nat.le_refl _) ?_; intro w2 hw2 hb2; have HW2 := Lib.hid (splice_all hw2.out HLN.out); have HB2 := Lib.hid hb2; have q1 := read_old H1.out hb2 (by omega); have q2 := (hb2.block w1.heap.size (by omega)).trans (heap_new w1 _ _ rfl); have G2 := Lib.hid ((G.out.al _).trans (hb2.mono (by simp only [World.size_alloc]; exact Nat.le_refl _))); clear hw2 hb2 c0 c1 c2 c3 f0 f1 f2 f3; obtain ⟨c0, c1, c2, c3⟩ := cells4f q1; have f0 := frozz q1 0; have f1 := frozz q1 1; have f2 := frozz q1 2; have f3 := frozz q1 3; obtain ⟨d0, d1, d2, d3⟩ := cells4f q2; clear q1 q2))
  exact bodyPost_ret (v := .tuple #[.agg #[.int .i64 (num : Int), .int .i64 2, .int .u64 0, .slice (some ⟨w1.heap.size + 1, 0, none⟩) 0 0], .int .i64 ((n : Int)), .int .i64 0]) (by simp [results, Try.results16, go_sem, c0, c1, c2, c3]) rfl ⟨.slice (some ⟨w1.heap.size + 1, 0, none⟩) 0 0, by simp [fldV], nums_of_block (bs := []) ((set4o (by omega)).trans HW2.out) ⟨rfl, by omega⟩, (((G2.out.st (Nat.le_refl _) _).st (Nat.le_refl _) _).st (Nat.le_refl _) _).st (Nat.le_refl _) _, own_of_block (bs := []) ((set4o (by omega)).trans HW2.out) ⟨rfl, by omega⟩⟩


set_option maxHeartbeats 1000000 in
/-- A field of any bytes, as the program reads it. -/
theorem read_field (v : Value) (l : List Nat) (w : World) (hp : NumsAt .u8 w v l) (hx : ∀ x ∈ l, x < 256) : Calls Try.prog 16 #[v] w (RetRead (rdF l) w) := by
  have HL := look_any v l (w.alloc fz) (hp.grows (Grows.alloc _ _)) hx
  rcases lk_cases l hx with ⟨e, he, hk⟩ | ⟨num, kind, n, head, size, hk, hG⟩
  · unfold rdF
    rw [hk] at HL ⊢
    rw [if_pos (by simpa [bad6] using he)]
    exact read_bad v w (bad6 e) (Lib.hid HL) (by simpa [bad6] using he)
  · unfold rdF
    rw [hk] at HL ⊢
    rw [if_neg (by simp)]
    simp only
    obtain ⟨g1, g2, g3, g4, g5, g6⟩ := hG
    obtain ⟨hl9, ⟨⟨_, _, rfl, _⟩, rfl⟩ | ⟨ba, oa, c, rfl, hb, hnc, hc⟩⟩ := id hp
    · simp at g2; omega
    · have hcell : ∀ j, j < size → w.cell? ⟨ba, oa + head + j, none⟩ = some (.int .u8 (((l.drop head).take size).getD j 0)) := fun j hj => by
        rw [Nat.add_assoc, hc (head + j) (by omega)]
        simp [List.getD_eq_getElem?_getD, List.getElem?_take, hj, List.getElem?_drop]
      have hlen : ((l.drop head).take size).length = size := by rw [List.length_take, List.length_drop]; omega
      rcases g5 with ⟨rfl, rfl⟩ | ⟨rfl, rfl, rfl⟩ | ⟨rfl, rfl⟩ | ⟨rfl, rfl, rfl⟩
      · exact read_number l ba oa l.length c num n head w (Lib.hid HL) hnc (by omega) hl9
      · refine read_word l ba oa l.length c num 1 head 8 w (Lib.hid HL) hnc g2 (by omega) hl9 true rfl (fun h => by cases h) _ (Lib.hid fun w' hg => fromLow_any _ _ w' ?_ (fun x h => hx x (List.mem_of_mem_drop (List.mem_of_mem_take h))) (by rw [hlen]; decide))
        refine ⟨by rw [hlen]; decide, .inr ⟨ba, oa + head, c - head, by rw [hlen], Nat.lt_of_lt_of_le hb hg.size, by rw [hlen]; omega, fun i hi => ?_⟩⟩
        rw [hlen] at hi
        rw [Below.cell hg (p := ⟨ba, oa + head + i, none⟩) hb]
        exact hcell i hi
      · by_cases hhc : head < c
        · exact read_bytes _ ba oa l.length c num head size w (Lib.hid HL) hnc g2 hl9 (Lib.hid hlen) hb (Lib.hid hcell) hhc
        · have h1 : head = l.length := by omega
          have h2 : c = l.length := by omega
          have h3 : size = 0 := by omega
          subst h1 h2 h3
          have := read_none ba oa l.length num w (Lib.hid HL) hl9
          simpa using this
      · refine read_word l ba oa l.length c num 5 head 4 w (Lib.hid HL) hnc g2 (by omega) hl9 false rfl (fun _ => rfl) _ (Lib.hid fun w' hg => fromLow_any _ _ w' ?_ (fun x h => hx x (List.mem_of_mem_drop (List.mem_of_mem_take h))) (by rw [hlen]; decide))
        refine ⟨by rw [hlen]; decide, .inr ⟨ba, oa + head, c - head, by rw [hlen], Nat.lt_of_lt_of_le hb hg.size, by rw [hlen]; omega, fun i hi => ?_⟩⟩
        rw [hlen] at hi
        rw [Below.cell hg (p := ⟨ba, oa + head + i, none⟩) hb]
        exact hcell i hi
end Go.Proofs.Ytdiciboaehdckaa
