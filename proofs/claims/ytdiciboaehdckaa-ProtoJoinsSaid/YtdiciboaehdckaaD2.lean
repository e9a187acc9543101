/-
  Layer 8: numbers in so many bytes, the lowest first.
-/
import Derived.Test.YtdiciboaehdckaaD1
namespace Go.Proofs.Ytdiciboaehdckaa
open Go.RowKit Go.Tab

def lowL (n : Nat) : Nat → List Nat
  | 0 => []
  | k + 1 => lowL n k ++ [n / 256 ^ k % 256]
theorem lowL_len (n k : Nat) : (lowL n k).length = k := by
  induction k with
  | zero => rfl
  | succ k ih => simp [lowL, ih]

set_option maxHeartbeats 1000000 in
theorem rlow_any (n size : Nat) (w : World) (hn : n < 18446744073709551616) (hs : size ≤ 8) : Calls Try.prog 36 #[.int .u64 (n : Int), .int .i64 (size : Int)] w (RetBytes (lowL n size) w) := by
  obtain ⟨i0, hi, hz0, hz1, hz2⟩ := info_parts info8
  have HN := Lib.hid hn
  clear hn
  go_enter Try.func36, Try.ntmps36
  go_wp2
  go_loopw [0, 5, 6] (fun q o i wr => ∃ (k : Nat) (m : Nat), k ≤ size ∧ q = .int .u64 (m : Int) ∧ Hid (m = n / 256 ^ k) ∧ i = .int .i64 (k : Int) ∧ wr.ownsRow w.heap.size 5 1 o (lowL n k).length ((lowL n k).map u8v) ∧ Grows w wr) (fun _ _ i _ => size - (intOf i).toNat)
  case atStart => exact ⟨0, n, Nat.zero_le _, rfl, Lib.hid (by simp), rfl, World.ownsRow_nil _ _ _ _, Grows.refl _⟩
  case round =>
    obtain ⟨k, m, hk, rfl, HM, rfl, hown, hg⟩ := hrel
    have Hown := Lib.hid hown
    have Hg := Lib.hid hg
    have hm : m < 18446744073709551616 := by rw [HM.out]; exact Nat.lt_of_le_of_lt (Nat.div_le_self _ _) HN.out
    have HL := Lib.hid (lowL_len n k)
    clear hown hg
    by_cases hlt : k < size
    · go_wp2_with (at_builtin; go_loud (refine wpList_append_own _ rfl _ _ 24 rfl w.heap.size 5 i0 (.int .u8 0) 1 1 Try.underlying24 hi hz0 hz1 hz2 rfl (by decide) _ _ _ rfl (Hown.out.alloc _) ⟨wr.heap.size, 0, none⟩ 1 1 [.int .u8 ((m : Int) % 256)] rfl rfl one_cell one_one (by rw [HL.out]; unfold maxLen; omega) (by rw [HL.out]; omega) (by have := Hg.out.size; rw [World.size_alloc]; omega) ?_; intro v' w1 hown' hgrow _; have Ho2 := Lib.hid hown'; have hg2 := Below.grown (Hg.out.al _) hgrow (by simp only [World.size_alloc]; have := Hg.out.size; omega) (fun k hk => (Hown.out.lt k hk).1); have Hg2 := Lib.hid hg2; clear hown' hgrow hg2))
      refine ⟨⟨k + 1, m / 256, by omega, by rw [Int.natCast_ediv]; rfl, Lib.hid (by rw [HM.out, Nat.pow_succ, Nat.div_div_eq_div_mul]), by simp, ?_, Hg2.out⟩, by simp only [intOf]; omega⟩
      have h := Ho2.out
      have e : ((m : Int) % 256) = ((n / 256 ^ k % 256 : Nat) : Int) := by rw [HM.out, Int.natCast_emod]; rfl
      rw [e] at h
      show w1.ownsRow w.heap.size _ 1 v' (lowL n k ++ [n / 256 ^ k % 256]).length ((lowL n k ++ [n / 256 ^ k % 256]).map u8v)
      rw [map_snoc, List.length_append]
      exact h
    · obtain rfl : k = size := by omega
      go_wp2
      go_ret
      exact ⟨_, rfl, Hown.out, Hg.out⟩
/-- A row of bytes of which the first ones are written. -/
def lowC (n size k : Nat) : Array Value := ((lowL n k).map u8v ++ List.replicate (size - k) (u8v 0)).toArray
theorem lowC_size (n size k : Nat) (hk : k ≤ size) : (lowC n size k).size = size := by
  simp [lowC, lowL_len]; omega
theorem lowC_set (n size k : Nat) (hk : k < size) : (lowC n size k).setIfInBounds k (u8v (n / 256 ^ k % 256)) = lowC n size (k + 1) := by
  apply Array.toList_inj.1
  simp only [lowC, Array.toList_setIfInBounds]
  rw [show size - k = (size - (k + 1)) + 1 by omega, List.replicate_succ]
  have hl : ((lowL n k).map u8v).length = k := by simp [lowL_len]
  rw [List.set_append, if_neg (by omega), hl, Nat.sub_self, List.set_cons_zero]
  simp [lowL]
theorem shr_low (n k : Nat) : ((n : Int) / 2 ^ (8 * k)) % 256 = ((n / 256 ^ k % 256 : Nat) : Int) := by
  rw [Int.natCast_emod, Int.natCast_ediv, Int.natCast_pow, Int.pow_mul]
  rfl
theorem set_at {w : World} {b k : Nat} {cs : Array Value} {T : TypeId} {x : Value} (h : w.heap[b]? = some (.cells cs T (0, 0))) : (w.setCell ⟨b, k, none⟩ x).heap[b]? = some (.cells (cs.setIfInBounds k x) T (0, 0)) := by
  simp [World.setCell, Array.getElem?_modify, h]
set_option maxHeartbeats 1000000 in
theorem lowFirst_of (n size : Nat) (w : World) (hn : n < 18446744073709551616) (hs : size ≤ 8) (hmk : ∀ w, (Instr.makeSlice 24 (.int .i64 (size : Int)) (.int .i64 (size : Int))).run Try.prog w = .ok (.slice (some ⟨w.heap.size, 0, none⟩) size size) (w.alloc (.cells (lowC n size 0) 5))) :
    Calls Try.prog 24 #[.int .u64 (n : Int), .int .i64 (size : Int)] w (RetBytes (lowL n size) w) := by
  go_enter Try.func24, Try.ntmps24
  go_wp2
  go_loopw [11] (fun i wr => ∃ k : Nat, k ≤ size ∧ i = .int .i64 (k : Int) ∧ Hid (wr.heap[w.heap.size]? = some (.cells (lowC n size k) 5 (0, 0))) ∧ Hid (Grows w wr)) (fun i _ => size - (intOf i).toNat)
  case atStart => exact ⟨0, Nat.zero_le _, rfl, Lib.hid (heap_new _ _ _ rfl), Lib.hid ((Grows.refl w).al _)⟩
  case round =>
    obtain ⟨k, hk, rfl, HB, HG⟩ := hrel
    by_cases hlt : k < size
    · obtain ⟨x, hx⟩ : ∃ x, wr.cell? ⟨w.heap.size, k, none⟩ = some x := ⟨(lowC n size k)[k]'(by rw [lowC_size _ _ _ hk]; exact hlt), by simp [World.cell?, HB.out, lowC_size n size k hk, hlt]⟩
      have hf := frozz HB.out k
      go_wp2
      rw [shr_low]
      exact ⟨⟨k + 1, by omega, by simp, Lib.hid (by rw [set_at HB.out]; rw [show Value.int IntKind.u8 ((n / 256 ^ k % 256 : Nat) : Int) = u8v (n / 256 ^ k % 256) from rfl, lowC_set n size k hlt]), Lib.hid (HG.out.st (Nat.le_refl _) _)⟩, by simp only [intOf]; omega⟩
    · obtain rfl : k = size := by omega
      go_wp2
      go_ret
      refine ⟨.slice (some ⟨w.heap.size, 0, none⟩) k k, rfl, ⟨by simp [lowL_len], .inr ⟨w.heap.size, k, lowC n k k, by rw [lowL_len], Nat.le_refl _, HB.out, by rw [lowL_len]; exact Nat.le_refl _, by unfold maxLen; omega, by simp [lowC, lowL_len], by simp only [lowC, Nat.sub_self, List.replicate_zero, List.append_nil, Nat.mul_one]; exact List.take_of_length_le (by simp)⟩⟩, HG.out⟩
theorem low_eight (n : Nat) (w : World) (hn : n < 18446744073709551616) : Calls Try.prog 24 #[.int .u64 (n : Int), .int .i64 8] w (RetBytes (lowL n 8) w) :=
  lowFirst_of n 8 w hn (by omega) (fun _ => by kernel_rfl)
theorem low_four (n : Nat) (w : World) (hn : n < 18446744073709551616) : Calls Try.prog 24 #[.int .u64 (n : Int), .int .i64 4] w (RetBytes (lowL n 4) w) :=
  lowFirst_of n 4 w hn (by omega) (fun _ => by kernel_rfl)

/-! ### The other way -/
def fromL (l : List Nat) : Nat := match l with | [] => 0 | b :: r => b + 256 * fromL r
theorem fromL_snoc (l : List Nat) (b : Nat) : fromL (l ++ [b]) = fromL l + b * 256 ^ l.length := by
  induction l with
  | nil => simp [fromL]
  | cons x l ih => simp only [List.cons_append, fromL, ih, List.length_cons, Nat.pow_succ]; grind
theorem fromL_lt (l : List Nat) (h : ∀ x ∈ l, x < 256) : fromL l < 256 ^ l.length := by
  induction l with
  | nil => simp [fromL]
  | cons x l ih =>
    have h1 := ih (fun y hy => h y (List.mem_cons_of_mem _ hy))
    have h2 := h x (by simp)
    simp only [fromL, List.length_cons, Nat.pow_succ]
    omega
theorem fromL_take (l : List Nat) (k : Nat) (h : k < l.length) : fromL (l.take (k + 1)) = fromL (l.take k) + l.getD k 0 * 256 ^ k := by
  rw [List.take_succ_eq_append_getElem h, fromL_snoc, List.length_take, Nat.min_eq_left (by omega)]
  simp [List.getD, h]
theorem fromL_lowL (n k : Nat) : fromL (lowL n k) = n % 256 ^ k := by
  induction k with
  | zero => simp [lowL, fromL, Nat.mod_one]
  | succ k ih =>
    simp only [lowL]
    rw [fromL_snoc, ih, lowL_len, Nat.pow_succ, Nat.mod_mul, Nat.mul_comm]
theorem pow8 (k : Nat) : 256 ^ k = 2 ^ (8 * k) := by rw [Nat.pow_mul]
theorem u64_id {n : Nat} (h : n < 18446744073709551616) : IntKind.u64.wrap (n : Int) = (n : Int) := by
  simp [IntKind.wrap, IntKind.bits, IntKind.signed]; omega
theorem or_low {l : List Nat} {k : Nat} (hk : k < l.length) (hl : l.length ≤ 8) (hx : ∀ x ∈ l, x < 256) : bits .or .u64 ((fromL (l.take k) : Nat) : Int) (IntKind.u64.wrap (IntKind.u64.wrap ((l[k]?.getD 0 : Nat) : Int) * 2 ^ (8 * k))) = ((fromL (l.take (k + 1)) : Nat) : Int) := by
  have hb : l[k]?.getD 0 < 256 := by
    rw [List.getElem?_eq_getElem hk]; exact hx _ (List.getElem_mem hk)
  have h1 : fromL (l.take k) < 256 ^ k := by
    have := fromL_lt (l.take k) (fun x hx' => hx x (List.mem_of_mem_take hx'))
    rwa [List.length_take, Nat.min_eq_left (by omega)] at this
  have h2 : fromL (l.take (k + 1)) < 256 ^ (k + 1) := by
    have := fromL_lt (l.take (k + 1)) (fun x hx' => hx x (List.mem_of_mem_take hx'))
    rwa [List.length_take, Nat.min_eq_left (by omega)] at this
  have h3 : 256 ^ (k + 1) ≤ 256 ^ 8 := Nat.pow_le_pow_right (by omega) (by omega)
  have e := fromL_take l k hk
  rw [List.getD_eq_getElem?_getD] at e
  rw [u64_id (by omega)]
  have h4 : (256 : Nat) ^ 8 = 18446744073709551616 := by decide
  have h5 := or_gen (fromL (l.take k)) (l[k]?.getD 0) (8 * k) (by rw [← pow8]; exact h1) (by rw [← pow8]; omega)
  rw [h5, e, pow8]
set_option maxHeartbeats 1000000 in
theorem fromLow_any (v : Value) (l : List Nat) (w : World) (hp : NumsAt .u8 w v l) (hx : ∀ x ∈ l, x < 256) (hl : l.length ≤ 8) : Calls Try.prog 31 #[v] w (Ret (.int .u64 (fromL l : Int)) w) := by
  have HP := Lib.hid hp
  obtain ⟨a, c, rfl⟩ := hp.shape
  obtain ⟨n, hn⟩ : ∃ n, n = l.length := ⟨_, rfl⟩
  rw [← hn] at hl HP ⊢
  have HN := Lib.hid hn
  have HX := Lib.hid hx
  clear hn hx hp
  go_enter Try.func31, Try.ntmps31
  go_wp2
  go_loopw [3, 8] (fun q i wr => ∃ k : Nat, k ≤ n ∧ i = .int .i64 (k : Int) ∧ q = .int .u64 ((fromL (l.take k) : Nat) : Int) ∧ wr = w) (fun _ i _ => n - (intOf i).toNat)
  case atStart => exact ⟨0, Nat.zero_le _, rfl, rfl, rfl⟩
  case round =>
    obtain ⟨k, hk, rfl, rfl, rfl⟩ := hrel
    by_cases hlt : k < n
    · obtain ⟨ba, oa, rfl, hba, hc⟩ := HP.out.at_ (i := k) (by rw [← HN.out]; exact hlt)
      have HOR := Lib.hid (or_low (l := l) (k := k) (by rw [← HN.out]; exact hlt) (by rw [← HN.out]; exact hl) HX.out)
      go_wp2
      exact ⟨⟨k + 1, by omega, by simp, by rw [HOR.out], trivial⟩, by simp only [intOf]; omega⟩
    · obtain rfl : k = n := by omega
      go_wp2
      go_ret
      exact ⟨ret_int (by rw [HN.out, List.take_length]), Grows.refl _⟩
end Go.Proofs.Ytdiciboaehdckaa
