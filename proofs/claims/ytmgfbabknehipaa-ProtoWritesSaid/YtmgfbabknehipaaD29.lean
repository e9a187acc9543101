/-
  Layer 8: the document's bytes of a field.
-/
import Derived.Laws.IdiomStrings
import Derived.Test.YtmgfbabknehipaaD28
import Derived.Test.YtmgfbabknehipaaD12
namespace Go.Proofs.Ytmgfbabknehipaa
open Go.RowKit Go.Tab Go.WideShapes

theorem strN_size (bs : List Nat) : (strN bs).size = bs.length := by simp [strN, ByteArray.size]
theorem strN_cells (bs : List Nat) (hx : ∀ x ∈ bs, x < 256) : (strN bs).data.map (fun b => Value.int .u8 (b.toNat : Int)) = (bs.map u8v).toArray := by
  apply Array.ext'
  simp only [strN, List.map_toArray, List.map_map]
  apply List.map_congr_left
  intro x h
  have := hx x h
  simp only [Function.comp, u8v, UInt8.toNat_ofNat']
  congr 2
  omega

theorem row_str {W : World} {b c cap : Nat} {e : TypeId} {fr : Nat × Nat} {s : ByteArray} {bs : List Nat} (h : W.heap[b]? = some (.cells (bytesRow s cap) e fr)) (hs : s.data.map (fun b => Value.int .u8 (b.toNat : Int)) = (bs.map u8v).toArray) : RowAt 1 W (.slice (some ⟨b, 0, none⟩) s.size c) s.size (bs.map u8v) := by
  have hl : (bs.map u8v).length = s.size := by
    have := congrArg Array.size hs
    simp only [Array.size_map, List.size_toArray] at this
    exact this.symm
  refine ⟨by rw [hl, Nat.mul_one], nums_one bs, .inr ⟨b, 0, c, rfl, (Array.getElem?_eq_some_iff.1 h).1, fun j u hj => ?_⟩⟩
  simp only [World.cell?, h, Nat.zero_add]
  show (if false = true then none else (bytesRow s cap)[j]?) = _
  unfold bytesRow
  rw [hs]
  have hjl : j < (bs.map u8v).length := (List.getElem?_eq_some_iff.1 hj).1
  rw [Array.getElem?_append_left (by simpa using hjl)]
  simpa using hj
theorem Grows.drew' (w : World) : Grows w w.drew := ⟨rfl, rfl, rfl, Nat.le_refl _, fun _ _ => rfl⟩
set_option maxRecDepth 100000 in
set_option maxHeartbeats 4000000 in
theorem rbytes_fld (f : Fld) (w : World) (hok : f.Ok) (h0 : okF f = 0) : Calls Try.prog 20 #[rfV f] w (RetBytes (wrB f) w) := by
  obtain ⟨i0, hi, hz0, hz1, hz2⟩ := info_parts info8
  obtain ⟨hn1, hn2, hk⟩ := okF_zero h0
  have hlen := hok.len
  have hn := hok.n
  have hx := hok.bs
  clear hok h0
  obtain ⟨num, kind, fn, bs⟩ := f
  simp only at hn1 hn2 hk hlen hn hx
  obtain ⟨m, rfl⟩ : ∃ m : Nat, num = m := ⟨num.toNat, by omega⟩
  have HN := Lib.hid (fun w => rbytes_any fn w hn)
  have HL8 := Lib.hid (fun w => rlow_any fn 8 w hn (by decide))
  have HL4 := Lib.hid (fun w => rlow_any fn 4 w hn (by decide))
  have HLNC := Lib.hid (fun (x : Int) w (h : x = (bs.length : Int)) => show Calls Try.prog 27 #[.int .u64 x] w (RetBytes (enc bs.length) w) by rw [h]; exact rbytes_any bs.length w (by omega))
  have HS := Lib.hid (strN_cells bs hx)
  have HSZ := Lib.hid (strN_size bs)
  have HX := Lib.hid hlen
  have HE0 := Lib.hid (enc_len10 hn)
  have HE2 := Lib.hid (enc_len10 (n := bs.length) (by omega))
  clear hn hx hlen
  have hcv := fun w s => run_bytes_of_string (P := Try.prog) w 9 24 5 s Try.underlying9 Try.underlying24 Try.underlying5
  unfold rfV
  simp only
  generalize strN bs = s at HS HSZ ⊢
  have key : ∀ kd : Nat, kd < 8 → Hid (∀ (x : Int) (w' : World), x = 8 * (m : Int) + (kd : Int) → Calls Try.prog 27 #[.int .u64 x] w' (RetBytes (enc (8 * (m : Int) + (kd : Int)).toNat) w')) ∧ (enc (8 * (m : Int) + (kd : Int)).toNat).length ≤ 10 := fun kd hkd => by
    refine ⟨Lib.hid fun x w' hx => ?_, enc_len10 (by omega)⟩
    subst hx
    obtain ⟨y, hy⟩ : ∃ y : Nat, (8 * (m : Int) + (kd : Int)) = y := ⟨(8 * (m : Int) + (kd : Int)).toNat, by omega⟩
    rw [hy, Int.toNat_natCast]
    exact rbytes_any y w' (by omega)
  rcases hk with ⟨rfl, rfl⟩ | ⟨rfl, rfl⟩ | ⟨rfl, rfl⟩ | ⟨rfl, rfl, hf⟩
  · have HW : Hid (wrB ⟨m, 0, fn, []⟩ = enc (8 * (m : Int) + (0 : Nat)).toNat ++ enc fn) := Lib.hid rfl
    obtain ⟨HB1, hE1⟩ := key 0 (by decide)
    generalize enc (8 * (m : Int) + (0 : Nat)).toNat = E1 at HB1 HW hE1
    have HEL : Hid (E1.length ≤ 10 ∧ (enc fn).length ≤ 10) := Lib.hid ⟨hE1, HE0.out⟩
    clear hE1 key
    go_enter Try.func20, Try.ntmps20
    go_wp2_with fail
    refine (HB1.out _ _ (by omega)).mono ?_
    rintro _ w2 ⟨u1, rfl, hu, hg⟩
    have HO := Lib.hid (own_base hu (base' := w.heap.size) (by rw [World.size_alloc]; omega))
    have HB := Lib.hid (hg.block (heap_new w (.cells #[.int .i64 (m : Int), .int .i64 0, .int .u64 (fn : Int), .string s] 50) _ rfl))
    have HG := Lib.hid ((Grows.alloc w (.cells #[.int .i64 (m : Int), .int .i64 0, .int .u64 (fn : Int), .string s] 50)).trans hg)
    clear hu hg
    obtain ⟨d0, d1, d2, d3⟩ := cells4f HB.out
    go_wp2_with fail
    refine (HN.out _).mono ?_
    rintro _ w3 ⟨u2, rfl, hu, hg⟩
    have HU := Lib.hid (own_row hu)
    have HO' := Lib.hid (ownsRow_later HO.out hg)
    have HB' := Lib.hid (hg.block HB.out)
    have HG' := Lib.hid (HG.out.trans hg)
    clear hu hg HO HB HG d0 d1 d2 d3
    have HO := HO'
    have HB := HB'
    have HG := HG'
    clear HO' HB' HG'
    obtain ⟨d0, d1, d2, d3⟩ := cells4f HB.out
    have HL63 : Hid ((E1).length + (enc fn).length ≤ maxLen) := Lib.hid (by have := HEL.out; (try simp only [List.length_append]); unfold maxLen; omega)
    have HLB : Hid (((E1).length + (enc fn).length) * 1 ≤ 140737488355328) := Lib.hid (by have := HEL.out; (try simp only [List.length_append]); omega)
    go_wp2_with (at_builtin; go_loud (refine append_row2 rfl _ _ 24 rfl w.heap.size 5 i0 (.int .u8 0) 1 1 Try.underlying24 hi hz0 hz1 hz2 rfl (by decide) u1 (E1).length ((E1).map u8v) rfl HO.out (enc fn).length ((enc fn).map u8v) u2 rfl HU.out HL63.out HLB.out HG.out.size ?_; intro o4 w4 hown hgr; have HB' := Lib.hid (grown_block HO.out HB.out (by decide) hgr); have HG' := Lib.hid (grown_all HO.out HG.out hgr); have HO' := Lib.hid (own_join hown); clear hown hgr HO HB HG HL63 HLB; have HO := HO'; have HB := HB'; have HG := HG'; clear HO' HB' HG'; obtain ⟨d0, d1, d2, d3⟩ := cells4f HB.out))
    go_ret
    refine ⟨_, rfl, ?_, HG.out⟩
    rw [HW.out]
    exact HO.out
  · have HW : Hid (wrB ⟨m, 1, fn, []⟩ = enc (8 * (m : Int) + (1 : Nat)).toNat ++ lowL fn 8) := Lib.hid rfl
    obtain ⟨HB1, hE1⟩ := key 1 (by decide)
    generalize enc (8 * (m : Int) + (1 : Nat)).toNat = E1 at HB1 HW hE1
    have HEL : Hid (E1.length ≤ 10 ∧ (lowL fn 8).length = 8) := Lib.hid ⟨hE1, lowL_len _ _⟩
    clear hE1 key
    go_enter Try.func20, Try.ntmps20
    go_wp2_with fail
    refine (HB1.out _ _ (by omega)).mono ?_
    rintro _ w2 ⟨u1, rfl, hu, hg⟩
    have HO := Lib.hid (own_base hu (base' := w.heap.size) (by rw [World.size_alloc]; omega))
    have HB := Lib.hid (hg.block (heap_new w (.cells #[.int .i64 (m : Int), .int .i64 1, .int .u64 (fn : Int), .string s] 50) _ rfl))
    have HG := Lib.hid ((Grows.alloc w (.cells #[.int .i64 (m : Int), .int .i64 1, .int .u64 (fn : Int), .string s] 50)).trans hg)
    clear hu hg
    obtain ⟨d0, d1, d2, d3⟩ := cells4f HB.out
    go_wp2_with fail
    refine (HL8.out _).mono ?_
    rintro _ w3 ⟨u2, rfl, hu, hg⟩
    have HU := Lib.hid (own_row hu)
    have HO' := Lib.hid (ownsRow_later HO.out hg)
    have HB' := Lib.hid (hg.block HB.out)
    have HG' := Lib.hid (HG.out.trans hg)
    clear hu hg HO HB HG d0 d1 d2 d3
    have HO := HO'
    have HB := HB'
    have HG := HG'
    clear HO' HB' HG'
    obtain ⟨d0, d1, d2, d3⟩ := cells4f HB.out
    have HL63 : Hid ((E1).length + (lowL fn 8).length ≤ maxLen) := Lib.hid (by have := HEL.out; (try simp only [List.length_append]); unfold maxLen; omega)
    have HLB : Hid (((E1).length + (lowL fn 8).length) * 1 ≤ 140737488355328) := Lib.hid (by have := HEL.out; (try simp only [List.length_append]); omega)
    go_wp2_with (at_builtin; go_loud (refine append_row2 rfl _ _ 24 rfl w.heap.size 5 i0 (.int .u8 0) 1 1 Try.underlying24 hi hz0 hz1 hz2 rfl (by decide) u1 (E1).length ((E1).map u8v) rfl HO.out (lowL fn 8).length ((lowL fn 8).map u8v) u2 rfl HU.out HL63.out HLB.out HG.out.size ?_; intro o4 w4 hown hgr; have HB' := Lib.hid (grown_block HO.out HB.out (by decide) hgr); have HG' := Lib.hid (grown_all HO.out HG.out hgr); have HO' := Lib.hid (own_join hown); clear hown hgr HO HB HG HL63 HLB; have HO := HO'; have HB := HB'; have HG := HG'; clear HO' HB' HG'; obtain ⟨d0, d1, d2, d3⟩ := cells4f HB.out))
    go_ret
    refine ⟨_, rfl, ?_, HG.out⟩
    rw [HW.out]
    exact HO.out
  · have HW : Hid (wrB ⟨m, 2, 0, bs⟩ = enc (8 * (m : Int) + (2 : Nat)).toNat ++ (enc bs.length ++ bs)) := Lib.hid rfl
    obtain ⟨HB1, hE1⟩ := key 2 (by decide)
    generalize enc (8 * (m : Int) + (2 : Nat)).toNat = E1 at HB1 HW hE1
    have HEL : Hid (E1.length ≤ 10 ∧ (enc bs.length).length ≤ 10 ∧ bs.length ≤ 1000) := Lib.hid ⟨hE1, HE2.out, HX.out⟩
    clear hE1 key
    go_enter Try.func20, Try.ntmps20
    go_wp2_with fail
    refine (HB1.out _ _ (by omega)).mono ?_
    rintro _ w2 ⟨u1, rfl, hu, hg⟩
    have HO := Lib.hid (own_base hu (base' := w.heap.size) (by rw [World.size_alloc]; omega))
    have HB := Lib.hid (hg.block (heap_new w (.cells #[.int .i64 (m : Int), .int .i64 2, .int .u64 ((0 : Nat) : Int), .string s] 50) _ rfl))
    have HG := Lib.hid ((Grows.alloc w (.cells #[.int .i64 (m : Int), .int .i64 2, .int .u64 ((0 : Nat) : Int), .string s] 50)).trans hg)
    clear hu hg
    obtain ⟨d0, d1, d2, d3⟩ := cells4f HB.out
    go_wp2_with fail
    refine (HLNC.out _ _ (by have := HSZ.out; have := HX.out; rw [u64_id (by omega), HSZ.out])).mono ?_
    rintro _ w3 ⟨u2, rfl, hu, hg⟩
    have HU := Lib.hid (own_row hu)
    have HO' := Lib.hid (ownsRow_later HO.out hg)
    have HB' := Lib.hid (hg.block HB.out)
    have HG' := Lib.hid (HG.out.trans hg)
    clear hu hg HO HB HG d0 d1 d2 d3
    have HO := HO'
    have HB := HB'
    have HG := HG'
    clear HO' HB' HG'
    obtain ⟨d0, d1, d2, d3⟩ := cells4f HB.out
    have HL63 : Hid ((E1).length + (enc bs.length).length ≤ maxLen) := Lib.hid (by have := HEL.out; (try simp only [List.length_append]); unfold maxLen; omega)
    have HLB : Hid (((E1).length + (enc bs.length).length) * 1 ≤ 140737488355328) := Lib.hid (by have := HEL.out; (try simp only [List.length_append]); omega)
    have HM63 : Hid ((E1 ++ enc bs.length).length + (bs).length ≤ maxLen) := Lib.hid (by have := HEL.out; (try simp only [List.length_append]); unfold maxLen; omega)
    have HMB : Hid (((E1 ++ enc bs.length).length + (bs).length) * 1 ≤ 140737488355328) := Lib.hid (by have := HEL.out; (try simp only [List.length_append]); omega)
    go_wp2_with (at_builtin; first | (refine append_row2 rfl _ _ 24 rfl w.heap.size 5 i0 (.int .u8 0) 1 1 Try.underlying24 hi hz0 hz1 hz2 rfl (by decide) o4 (E1 ++ enc bs.length).length ((E1 ++ enc bs.length).map u8v) rfl (ownsRow_later HO.out ((Grows.refl w4).al _).dr) s.size (bs.map u8v) (.slice (some ⟨w4.heap.size, 0, none⟩) s.size _) rfl (row_str (heap_new w4 _ _ rfl) HS.out) (by rw [HSZ.out]; exact HM63.out) (by rw [HSZ.out]; exact HMB.out) (HG.out.trans ((Grows.refl w4).al _).dr).size ?_; intro o6 w6 hown hgr; have HG' := Lib.hid (grown_all (ownsRow_later HO.out ((Grows.refl w4).al _).dr) (HG.out.trans ((Grows.refl w4).al _).dr) hgr); rw [HSZ.out] at hown; have HO' := Lib.hid (own_join hown); clear hown hgr HO HG; have HO := HO'; have HG := HG'; clear HO' HG') | ((refine append_row2 rfl _ _ 24 rfl w.heap.size 5 i0 (.int .u8 0) 1 1 Try.underlying24 hi hz0 hz1 hz2 rfl (by decide) u1 (E1).length ((E1).map u8v) rfl HO.out (enc bs.length).length ((enc bs.length).map u8v) u2 rfl HU.out HL63.out HLB.out HG.out.size ?_; intro o4 w4 hown hgr; have HB' := Lib.hid (grown_block HO.out HB.out (by decide) hgr); have HG' := Lib.hid (grown_all HO.out HG.out hgr); have HO' := Lib.hid (own_join hown); clear hown hgr HO HB HG HL63 HLB; have HO := HO'; have HB := HB'; have HG := HG'; clear HO' HB' HG'; obtain ⟨d0, d1, d2, d3⟩ := cells4f HB.out)))
    go_ret
    refine ⟨_, rfl, ?_, HG.out⟩
    rw [HW.out, ← List.append_assoc]
    exact HO.out
  · have HW : Hid (wrB ⟨m, 5, fn, []⟩ = enc (8 * (m : Int) + (5 : Nat)).toNat ++ lowL fn 4) := Lib.hid rfl
    obtain ⟨HB1, hE1⟩ := key 5 (by decide)
    generalize enc (8 * (m : Int) + (5 : Nat)).toNat = E1 at HB1 HW hE1
    have HEL : Hid (E1.length ≤ 10 ∧ (lowL fn 4).length = 4) := Lib.hid ⟨hE1, lowL_len _ _⟩
    clear hE1 key hf
    go_enter Try.func20, Try.ntmps20
    go_wp2_with fail
    refine (HB1.out _ _ (by omega)).mono ?_
    rintro _ w2 ⟨u1, rfl, hu, hg⟩
    have HO := Lib.hid (own_base hu (base' := w.heap.size) (by rw [World.size_alloc]; omega))
    have HB := Lib.hid (hg.block (heap_new w (.cells #[.int .i64 (m : Int), .int .i64 5, .int .u64 (fn : Int), .string s] 50) _ rfl))
    have HG := Lib.hid ((Grows.alloc w (.cells #[.int .i64 (m : Int), .int .i64 5, .int .u64 (fn : Int), .string s] 50)).trans hg)
    clear hu hg
    obtain ⟨d0, d1, d2, d3⟩ := cells4f HB.out
    go_wp2_with fail
    refine (HL4.out _).mono ?_
    rintro _ w3 ⟨u2, rfl, hu, hg⟩
    have HU := Lib.hid (own_row hu)
    have HO' := Lib.hid (ownsRow_later HO.out hg)
    have HB' := Lib.hid (hg.block HB.out)
    have HG' := Lib.hid (HG.out.trans hg)
    clear hu hg HO HB HG d0 d1 d2 d3
    have HO := HO'
    have HB := HB'
    have HG := HG'
    clear HO' HB' HG'
    obtain ⟨d0, d1, d2, d3⟩ := cells4f HB.out
    have HL63 : Hid ((E1).length + (lowL fn 4).length ≤ maxLen) := Lib.hid (by have := HEL.out; (try simp only [List.length_append]); unfold maxLen; omega)
    have HLB : Hid (((E1).length + (lowL fn 4).length) * 1 ≤ 140737488355328) := Lib.hid (by have := HEL.out; (try simp only [List.length_append]); omega)
    go_wp2_with (at_builtin; go_loud (refine append_row2 rfl _ _ 24 rfl w.heap.size 5 i0 (.int .u8 0) 1 1 Try.underlying24 hi hz0 hz1 hz2 rfl (by decide) u1 (E1).length ((E1).map u8v) rfl HO.out (lowL fn 4).length ((lowL fn 4).map u8v) u2 rfl HU.out HL63.out HLB.out HG.out.size ?_; intro o4 w4 hown hgr; have HB' := Lib.hid (grown_block HO.out HB.out (by decide) hgr); have HG' := Lib.hid (grown_all HO.out HG.out hgr); have HO' := Lib.hid (own_join hown); clear hown hgr HO HB HG HL63 HLB; have HO := HO'; have HB := HB'; have HG := HG'; clear HO' HB' HG'; obtain ⟨d0, d1, d2, d3⟩ := cells4f HB.out))
    go_ret
    refine ⟨_, rfl, ?_, HG.out⟩
    rw [HW.out]
    exact HO.out
end Go.Proofs.Ytmgfbabknehipaa
