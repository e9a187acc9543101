/-
  Layer 7: the program's bytes of numbers, and how many they are.
-/
import Derived.Test.YtdiciboaehdckaaV1
namespace Go.Proofs.Ytdiciboaehdckaa
open Go.RowKit Go.Tab

theorem enc_len_step {n : Nat} (h : ¬ n < 128) : (enc n).length = (enc (n / 128)).length + 1 := by rw [enc_ge h, List.length_cons]
theorem enc_len_one {n : Nat} (h : n < 128) : (enc n).length = 1 := by rw [enc_lt h, List.length_singleton]

/-- A slice that reads as these numbers of 64 bits. -/
def U64At (w : World) (v : Value) (l : List Nat) : Prop :=
  l.length ≤ 17592186044416 ∧ (((∃ a cap, v = .slice a 0 cap ∧ (a = none → cap = 0)) ∧ l = []) ∨ ∃ b off cap, v = .slice (some ⟨b, off, none⟩) l.length cap ∧ b < w.heap.size ∧
    ∀ i, i < l.length → w.cell? ⟨b, off + i, none⟩ = some (.int .u64 (l.getD i 0)))
theorem U64At.grows {w w' : World} {v : Value} {l : List Nat} (h : U64At w v l) (hg : Grows w w') : U64At w' v l := by
  obtain ⟨hl, h | ⟨b, off, cap, hv, hb, hc⟩⟩ := h
  · exact ⟨hl, .inl h⟩
  · refine ⟨hl, .inr ⟨b, off, cap, hv, Nat.lt_of_lt_of_le hb hg.size, fun i hi => ?_⟩⟩
    rw [Below.cell hg (p := ⟨b, off + i, none⟩) hb]
    exact hc i hi

def encs (l : List Nat) : List Nat := l.flatMap enc
theorem encs_succ (l : List Nat) (k : Nat) (h : k < l.length) : encs (l.take (k + 1)) = encs (l.take k) ++ enc (l.getD k 0) := by
  unfold encs
  rw [List.take_succ_eq_append_getElem h, List.flatMap_append]
  simp [h]
theorem encs_len (l : List Nat) (h : ∀ x ∈ l, x < 18446744073709551616) : (encs l).length ≤ 10 * l.length := by
  induction l with
  | nil => simp [encs]
  | cons a l ih =>
    have h1 := enc_len10 (h a (by simp))
    have h2 := ih (fun x hx => h x (by simp [hx]))
    unfold encs at h2 ⊢
    simp only [List.flatMap_cons, List.length_append, List.length_cons]
    omega

theorem one_cell {w : World} {x : Value} {T : TypeId} : ∀ (j : Nat) (u : Value), [x][j]? = some u → (w.alloc (.cells #[x] T)).cell? ((⟨w.heap.size, 0, none⟩ : Addr).add j) = some u := by
  intro j u h
  cases j with
  | zero => simp at h; subst h; simp [Addr.add]
  | succ j => simp at h
theorem one_one {x : Int} : ∀ u ∈ [Value.int .u8 x], u.oneCell' = true := by
  intro u hu; simp at hu; subst hu; rfl
theorem or128_fin : ∀ x : Fin 256, bits .or .u8 (x.val : Int) 128 = 128 + (x.val : Int) % 128 := by decide +kernel
theorem or128 (m : Nat) : bits .or .u8 ((m : Int) % 256) 128 = ((128 + m % 128 : Nat) : Int) := by
  have := or128_fin ⟨m % 256, by omega⟩
  simp only at this
  rw [Int.natCast_emod] at this
  rw [show ((256 : Nat) : Int) = 256 from rfl] at this
  rw [this]; omega
theorem map_snoc (L : List Nat) (x : Nat) : (L ++ [x]).map u8v = L.map u8v ++ [.int .u8 x] := by simp

theorem encs_take (l : List Nat) (k : Nat) (h : ∀ x ∈ l, x < 18446744073709551616) : (encs (l.take k)).length ≤ 10 * l.length := by
  have h1 := encs_len (l.take k) (fun x hx => h x (List.mem_of_mem_take hx))
  have h2 : (l.take k).length ≤ l.length := List.length_take_le' k l
  omega

set_option maxRecDepth 100000 in
set_option maxHeartbeats 1600000 in
theorem bytes_any (v : Value) (l : List Nat) (w : World) (hp : U64At w v l) (hl : l.length ≤ 1000) (hx : ∀ x ∈ l, x < 18446744073709551616) :
    Calls Try.prog 23 #[v] w (RetBytes (encs l) w) := by
  obtain ⟨_, ⟨⟨_, _, rfl, _⟩, rfl⟩ | ⟨b, off, cap, rfl, hb, hc⟩⟩ := hp
  · go_enter Try.func23, Try.ntmps23
    go_wp2
    refine wp_loop_rounds 1 ?_; rw [rounds_succ]
    go_wp2
    go_ret
    exact ⟨_, rfl, World.ownsRow_nil _ _ _ _, Grows.refl _⟩
  · generalize hn : l.length = n at *
    have Hn := Lib.hid hn
    have Hel := Lib.hid (encs_len l hx)
    have Hx := Lib.hid hx
    obtain ⟨i0, hi, hz0, hz1, hz2⟩ := info_parts info8
    clear hn hx
    go_enter Try.func23, Try.ntmps23
    go_wp2
    go_loopw [3, 8] (fun o i wr => ∃ k : Nat, k ≤ n ∧ i = .int .i64 k ∧ wr.ownsRow w.heap.size 5 1 o (encs (l.take k)).length ((encs (l.take k)).map u8v) ∧ Grows w wr) (fun _ i _ => n - (intOf i).toNat)
    case atStart => exact ⟨0, Nat.zero_le _, rfl, by simp [encs]; exact World.ownsRow_nil _ _ _ _, Grows.refl _⟩
    case round =>
      obtain ⟨k, hk, rfl, hown, hg⟩ := hrel
      have Hown := Lib.hid hown
      clear hown
      by_cases hlt : k < n
      · have e1 := hc k hlt
        rw [← Below.cell hg (p := ⟨b, off + k, none⟩) hb] at e1
        have Hs := Lib.hid (encs_succ l k (by rw [Hn.out]; exact hlt))
        have hxk : l.getD k 0 < 18446744073709551616 := Hx.out _ (getD_mem l k (by rw [Hn.out]; exact hlt))
        generalize l.getD k 0 = x at e1 Hs hxk
        have Hxk := Lib.hid hxk
        have Hg := Lib.hid hg
        clear hc hg hxk
        obtain ⟨wo, rfl⟩ : ∃ wo : World, wo = wr := ⟨_, rfl⟩
        have hB := encs_take l (k + 1) Hx.out
        rw [Hn.out] at hB
        generalize hE : encs (l.take (k + 1)) = E at hB Hs
        have HE := Lib.hid hE
        have hBE : E.length ≤ 10000 := by omega
        have HB := Lib.hid hBE
        clear hB hE hBE
        go_wp2
        go_loopw [3, 5] (fun o y wr => ∃ (m : Nat) (L : List Nat), m < 18446744073709551616 ∧ y = .int .u64 m ∧ wr.ownsRow w.heap.size 5 1 o L.length (L.map u8v) ∧ L ++ enc m = E ∧ Grows w wr) (fun _ y _ => (intOf y).toNat)
        case atStart => exact ⟨x, _, Hxk.out, rfl, Hown.out, Hs.out.symm, Hg.out⟩
        case round =>
          obtain ⟨m, L, hm, rfl, hown1, hLm, hg1⟩ := hrel
          obtain ⟨wr, rfl⟩ : ∃ w1 : World, w1 = wr := ⟨_, rfl⟩
          have hLen : L.length ≤ 10000 := by
            have h1 := HB.out
            rw [← hLm, List.length_append] at h1; omega
          have hsz1 := hg1.size
          have Hown1 := Lib.hid hown1
          have HLm := Lib.hid hLm
          have Hg1 := Lib.hid hg1
          have Hm := Lib.hid hm
          clear hown1 hLm hg1 hm
          by_cases h128 : m < 128
          · have HE2 : Hid (L ++ [m] = E) := by have := HLm.out; rw [enc_lt h128] at this; exact this
            clear HLm
            go_wp2_with (at_builtin; refine wpList_append_own _ rfl _ _ 24 rfl w.heap.size 5 i0 (.int .u8 0) 1 1 Try.underlying24 hi hz0 hz1 hz2 rfl (by decide) u3 L.length _ rfl (Hown1.out.alloc _) ⟨wr.heap.size, 0, none⟩ 1 1 [.int .u8 ((m : Int))] rfl rfl one_cell one_one (by unfold maxLen; omega) (by omega) (by simp only [World.size_alloc]; omega) ?_; intro v' w2 hown2 hgrow _; have Ho2 := Lib.hid hown2; have hg2 := Below.grown (Hg1.out.al _) hgrow (by simp only [World.size_alloc]; omega) (fun k hk => (Hown1.out.lt k hk).1); have Hg2 := Lib.hid hg2; clear hown2 hgrow hg2)
            go_roundw
            case rel =>
              refine ⟨k + 1, by omega, by go_num, ?_, Hg2.out⟩
              rw [HE.out, ← HE2.out, map_snoc, List.length_append]
              exact Ho2.out
            case measure => simp [intOf]; omega
          · have HE2 := Lib.hid (show (L ++ [128 + m % 128]) ++ enc (m / 128) = E from by have := HLm.out; rw [enc_ge h128] at this; rw [← this]; simp)
            clear HLm
            have Hor := Lib.hid (or128 m)
            go_wp2_with (at_builtin; refine wpList_append_own _ rfl _ _ 24 rfl w.heap.size 5 i0 (.int .u8 0) 1 1 Try.underlying24 hi hz0 hz1 hz2 rfl (by decide) u3 L.length _ rfl (Hown1.out.alloc _) ⟨wr.heap.size, 0, none⟩ 1 1 [.int .u8 (bits .or .u8 ((m : Int) % 256) 128)] rfl rfl one_cell one_one (by unfold maxLen; omega) (by omega) (by simp only [World.size_alloc]; omega) ?_; intro v' w2 hown2 hgrow _; have Ho2 := Lib.hid hown2; have hg2 := Below.grown (Hg1.out.al _) hgrow (by simp only [World.size_alloc]; omega) (fun k hk => (Hown1.out.lt k hk).1); have Hg2 := Lib.hid hg2; clear hown2 hgrow hg2)
            go_roundw
            case rel =>
              refine ⟨m / 128, L ++ [128 + m % 128], by have := Hm.out; omega, by rw [Int.natCast_ediv]; rfl, ?_, HE2.out, Hg2.out⟩
              have := Ho2.out
              rw [Hor.out] at this
              rw [map_snoc, List.length_append]
              exact this
            case measure => simp [intOf]; omega
      · go_wp2
        go_ret
        obtain rfl : k = n := by omega
        have := Hown.out
        rw [List.take_of_length_le (by rw [Hn.out]; exact Nat.le_refl _)] at this
        exact ⟨_, rfl, this, hg⟩
end Go.Proofs.Ytdiciboaehdckaa
