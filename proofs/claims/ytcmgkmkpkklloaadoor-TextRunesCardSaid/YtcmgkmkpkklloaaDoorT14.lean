/-
  Layer 9: the quoted form of a text.
-/
import Derived.Test.YtcmgkmkpkklloaaDoorT13
namespace Go.Proofs.YtcmgkmkpkklloaaDoor
open Go.RowKit Go.Tab Go.WideShapes

/-- A right text's quoted form. -/
def quoteL (l : List UInt8) : List UInt8 := 34 :: l.flatMap qB ++ [34]
def quoteV (s : ByteArray) : Value := if rightT s then .tuple #[.string (bytes (quoteL s.data.toList)), .int .i64 0] else .tuple #[.string ⟨#[]⟩, .int .i64 13]
theorem form_len (r : Nat) : formL r = [] ∨ (2 ≤ (formL r).length ∧ (formL r).length ≤ 4) := by
  unfold formL
  repeat' split
  all_goals simp
theorem qB_len (c : UInt8) : 1 ≤ (qB c).length ∧ (qB c).length ≤ 4 := by
  unfold qB
  rcases form_len c.toNat with h | h
  · rw [if_pos h]; simp
  · rw [if_neg (fun e => by rw [e] at h; simp at h)]; omega
theorem flat_len : ∀ l : List UInt8, (l.flatMap qB).length ≤ 4 * l.length
  | [] => by simp
  | c :: t => by
    rw [List.flatMap_cons, List.length_append, List.length_cons]
    have := flat_len t
    have := (qB_len c).2
    omega
theorem qF_len (r : Nat) : (qF r).length ≤ 4 := by
  unfold qF
  rcases form_len r with h | h
  · rw [if_pos h]
    have := Lib.encodeRuneZ_length (r : Int)
    unfold Lib.encodeRune
    rw [List.length_map]; omega
  · rw [if_neg (fun e => by rw [e] at h; simp at h)]; omega
theorem Holds.grows {b : Nat} {l : List UInt8} {w w' : World} (h : Holds b l w) (hg : Grows w w') : Holds b l w' := by
  have key : ∀ p, Lib.BuilderAtF 60 5 b b p (Lib.byteCells l) w → Lib.BuilderAtF 60 5 b b p (Lib.byteCells l) w' := by
    rintro p ⟨hB, v, hb, ⟨h1, h2⟩, hne⟩
    refine ⟨hB, v, hg.block hb, ⟨h1, ?_⟩, hne⟩
    rcases h2 with h2 | ⟨g, cap, cur, fz, hv, hbg, hgg, rest⟩
    · exact .inl h2
    · exact .inr ⟨g, cap, cur, fz, hv, hbg, hg.block hgg, rest⟩
  exact h.elim (fun x => .inl (key _ x)) (fun x => .inr (key _ x))
/-- What the rounds have written. -/
structure Wrote (s : ByteArray) (acc : List UInt8) (i : Nat) : Prop where
  is : acc = 34 :: (s.data.toList.take i).flatMap qB
  le : i ≤ s.size
theorem Wrote.zero (s : ByteArray) : Wrote s [34] 0 := ⟨by simp, Nat.zero_le _⟩
theorem Wrote.len {s : ByteArray} {acc : List UInt8} {i : Nat} (h : Wrote s acc i) : acc.length ≤ 1 + 4 * s.size := by
  rw [h.is, List.length_cons]
  have := flat_len (s.data.toList.take i)
  rw [List.length_take, size_list] at this
  have := h.le
  omega
theorem Wrote.step {s : ByteArray} {acc : List UInt8} {i : Nat} (h : Wrote s acc i) (hi : i < s.size) (hn : (firstF s i).2 ≠ 0) (hw : i + (firstF s i).2 ≤ s.size) : Wrote s (acc ++ qF (firstF s i).1) (i + (firstF s i).2) := by
  refine ⟨?_, hw⟩
  rw [q_step hi hn, h.is, List.cons_append, ← List.flatMap_append, List.take_add]
theorem Wrote.fin {s : ByteArray} {acc : List UInt8} {i : Nat} (h : Wrote s acc i) (hi : ¬ i < s.size) : acc ++ [34] = quoteL s.data.toList := by
  unfold quoteL
  rw [h.is, List.take_of_length_le (by rw [size_list]; omega)]

set_option maxRecDepth 100000 in
set_option maxHeartbeats 4000000 in
theorem quote_any (s : ByteArray) (w : World) (hs : s.size ≤ 1000) (hT : Tabs w) : Calls Tryd.prog 15 #[.string s] w (Ret (quoteV s) w) := by
  have HR := Lib.hid (right_any s w hs hT)
  clear hT
  have HNO : Hid (rightT s = false → quoteV s = .tuple #[.string ⟨#[]⟩, .int .i64 13]) := Lib.hid (fun h => by unfold quoteV; rw [h]; rfl)
  have HYES : Hid (rightT s = true → quoteV s = .tuple #[.string (bytes (quoteL s.data.toList)), .int .i64 0]) := Lib.hid (fun h => by unfold quoteV; rw [h]; rfl)
  have HUR := Lib.hid (fun acc i (h : Upto s acc i) hr hi => upto_right h hr hi)
  generalize rightT s = b at HR HNO HYES HUR
  generalize quoteV s = qv at HNO HYES ⊢
  go_enter Tryd.func15, Tryd.ntmps15
  go_wp2_with fail
  refine HR.out.mono ?_
  rintro _ w1 ⟨rfl, hg⟩
  have HG0 := Lib.hid hg
  clear hg HR
  cases b with
  | false =>
    obtain rfl := HNO.out rfl
    go_wp2
    go_ret2
    exact ⟨rfl, HG0.out⟩
  | true =>
    obtain rfl := HYES.out rfl
    have HB0 : Hid (Holds w1.heap.size [] (w1.alloc (.cells #[.pointer none, .slice none 0 0] 60))) := Lib.hid (Lib.IsBuilderF.of (Lib.fresh_isBuilder 60 5 w1))
    have HG1 : Hid (Grows w1 (w1.alloc (.cells #[.pointer none, .slice none 0 0] 60))) := Lib.hid (Grows.alloc _ _)
    have HW1 := Lib.hid (wbyte_any w1.heap.size [] 34 _ HB0.out (by simp))
    go_wp2_with fail
    refine HW1.out.mono ?_
    rintro _ w2 ⟨rfl, hh, hk⟩
    have HG2 : Hid (Grows w1 w2) := Lib.hid (Below.trans HG1.out hk.1)
    have hbK : w1.heap.size < w2.heap.size := by
      have := hk.1.size
      simp at this
      omega
    have HB2 : Hid (Holds w1.heap.size [34] (w2.iter s 0)) := Lib.hid (hh.alloc _)
    have HG3 : Hid (Grows w1 (w2.iter s 0)) := Lib.hid (HG2.out.al _)
    have HI3 : Hid ((w2.iter s 0).heap[w2.heap.size]? = some (.stringIter s 0)) := Lib.hid (World.iter_heap w2 s 0)
    clear hh hk HB0 HG1 HW1 HG2
    go_wp2
    go_loopw [] (fun wr => ∃ (pos : Nat) (accR : List (Nat × Nat)) (acc : List UInt8), pos ≤ s.size ∧ Hid (Upto s accR pos) ∧ Hid (Wrote s acc pos) ∧ Hid (Holds w1.heap.size acc wr) ∧ Hid (wr.heap[w2.heap.size]? = some (.stringIter s pos)) ∧ Hid (Grows w1 wr)) (fun w' => s.size - w'.iterPos w2.heap.size)
    case atStart => exact ⟨0, [], [34], Nat.zero_le _, Lib.hid (Upto.zero s), Lib.hid (Wrote.zero s), HB2, HI3, HG3⟩
    case round =>
      clear HB2 HG3 HI3
      obtain ⟨pos, accR, acc, hp, HU, HW, HB, HI, HG⟩ := hrel
      have HPOS := Lib.hid (iterPos_of HI.out)
      have HL : Hid (acc.length ≤ 1 + 4 * s.size) := Lib.hid HW.out.len
      by_cases hlt : pos < s.size
      · have hnx : ∀ ty, (Instr.next (.pointer (some ⟨w2.heap.size, 0, none⟩)) true ty).run Tryd.prog wr = _ := fun ty => Lib.run_next_any_at wr w2.heap.size s pos ty HI.out hlt
        have HNZ := Lib.hid (HUR.out accR pos HU.out trivial hlt)
        have hd := dec_right hlt HNZ.out
        have HI4 := Lib.hid (Lib.iterAt_heap wr w2.heap.size s pos (pos + (Utf8.decode s pos).2) HI.out)
        have HB4 : Hid (Holds _ _ _) := Lib.hid (Lib.IsBuilderF.iterAt HB.out HI.out (pos + (Utf8.decode s pos).2))
        have HG4 : Hid (Grows w1 _) := Lib.hid (Lib.below_iterAt HG.out (k := w2.heap.size) (by omega) s (pos + (Utf8.decode s pos).2))
        have HWD := Lib.hid (first_width hlt)
        have HS := Lib.hid (HU.out.step hlt HNZ.out)
        have HS2 := Lib.hid (HW.out.step hlt HNZ.out HWD.out)
        have HV := Lib.hid (first_valid (s := s) (i := pos))
        rw [hd] at hnx HI4 HB4 HG4
        clear hd
        obtain ⟨⟨r, k⟩, hdd⟩ : ∃ d, d = firstF s pos := ⟨_, rfl⟩
        rw [← hdd] at hnx HI4 HB4 HG4 HWD HNZ HS HS2 HV
        simp only at hnx HI4 HB4 HG4 HWD HNZ HS HS2 HV
        clear hdd
        have HQ1 := Lib.hid (fun w' => quote1_any r w' HV.out)
        have HQL := Lib.hid (qF_len r)
        generalize qF r = q at HQ1 HQL HS2
        go_wp2_with fail
        refine (HQ1.out _).mono ?_
        rintro _ wf ⟨rfl, hg⟩
        have HI5 := Lib.hid (hg.block HI4.out)
        have HB5 := Lib.hid (HB4.out.grows hg)
        have HG5 : Hid (Grows w1 wf) := Lib.hid (HG4.out.trans hg)
        have HWS := Lib.hid (wstr_any w1.heap.size acc (bytes q) wf HB5.out (by have := HL.out; omega) (by show (bytes q).data.size ≤ 1000000; rw [← Array.length_toList, bytes_toList]; have := HQL.out; omega))
        rw [bytes_toList] at HWS
        clear hg HI4 HB4 HG4 hnx HQ1 HB HI HG
        go_wp2_with fail
        refine HWS.out.mono ?_
        rintro _ wg ⟨rfl, hh, hk⟩
        have HI6 := Lib.hid (hk.2.iter HI5.out (by omega))
        have HG6 : Hid (Grows w1 wg) := Lib.hid (Below.trans HG5.out hk.1)
        have HB6 : Hid (Holds w1.heap.size (acc ++ q) wg) := Lib.hid hh
        clear hh hk HI5 HB5 HG5 HWS
        go_wp2
        exact ⟨⟨pos + k, _, acc ++ q, HWD.out, HS, HS2, HB6, HI6, HG6⟩, by rw [iterPos_of HI6.out, HPOS.out]; have := HNZ.out; omega⟩
      · have hnx : ∀ ty, (Instr.next (.pointer (some ⟨w2.heap.size, 0, none⟩)) true ty).run Tryd.prog wr = _ := fun ty => Lib.run_next_end_at wr w2.heap.size s pos ty HI.out hlt
        have HF := Lib.hid (HW.out.fin hlt)
        have HW2 := Lib.hid (wbyte_any w1.heap.size acc 34 wr HB.out (by have := HL.out; omega))
        obtain ⟨ql, hql⟩ : ∃ ql, ql = quoteL s.data.toList := ⟨_, rfl⟩
        rw [← hql] at HF
        have HQL := Lib.hid hql
        clear hql
        go_wp2_with fail
        refine HW2.out.mono ?_
        rintro _ wf ⟨rfl, hh, hk⟩
        have HG2 : Hid (Grows w1 wf) := Lib.hid (Below.trans HG.out hk.1)
        rw [HF.out] at hh
        have HST := Lib.hid (Proofs.Tryd.Builder_String_any_k w1.heap.size w1.heap.size ql wf hh HG2.out.size)
        clear hh hk HW2 hnx HB HI HG
        go_wp2_with fail
        refine HST.out.mono ?_
        rintro _ wg ⟨rfl, -, hg, -⟩
        have HG3 : Hid (Grows w1 wg) := Lib.hid (Below.trans HG2.out hg)
        clear hg HST
        go_wp2
        go_ret2
        exact ⟨by rw [← HQL.out]; rfl, HG0.out.trans HG3.out⟩
end Go.Proofs.YtcmgkmkpkklloaaDoor
