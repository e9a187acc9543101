/-
  Layer 7: a number's bytes, by the document's reckoning.
-/
import Derived.Test.YtdiciboaehdckaaRows
import Derived.Test.YtdiciboaehdckaaTab
import Derived.ProofKit
import Derived.WalkKit
import Derived.LoopTactic
import Derived.Outline
import Derived.Below
import Derived.BigQuiet
import Derived.Lib.Hide
import Derived.OwnWalk
namespace Go.Proofs.Ytdiciboaehdckaa
open Go.RowKit Go.Tab

theorem ret_bool {a b : Bool} (h : a = b) : Ending.returned (.bool a) = .returned (.bool b) := by rw [h]
theorem ret_int {k : IntKind} {a b : Int} (h : a = b) : Ending.returned (.int k a) = .returned (.int k b) := by rw [h]

abbrev u8v (x : Nat) : Value := .int .u8 x
abbrev u64v (x : Nat) : Value := .int .u64 x

/-- The bytes of a number: seven bits each. -/
def enc (n : Nat) : List Nat := if n < 128 then [n] else (128 + n % 128) :: enc (n / 128)
termination_by n
decreasing_by omega
theorem enc_lt {n : Nat} (h : n < 128) : enc n = [n] := by rw [enc, if_pos h]
theorem enc_ge {n : Nat} (h : ¬ n < 128) : enc n = (128 + n % 128) :: enc (n / 128) := by rw [enc, if_neg h]
theorem getD_mem (l : List Nat) (k : Nat) (h : k < l.length) : l.getD k 0 ∈ l := by
  rw [List.getD_eq_getElem?_getD, List.getElem?_eq_getElem h]; exact List.getElem_mem h
theorem enc_pos (n : Nat) : 0 < (enc n).length := by
  by_cases h : n < 128
  · rw [enc_lt h]; simp
  · rw [enc_ge h]; simp
theorem enc_len (k : Nat) : ∀ n, n < 128 ^ k → 0 < k → (enc n).length ≤ k := by
  induction k with
  | zero => intro n h h0; omega
  | succ k ih =>
    intro n h _
    by_cases hn : n < 128
    · rw [enc_lt hn]; simp
    · rw [enc_ge hn]
      have hk : 0 < k := by
        rcases Nat.eq_zero_or_pos k with h0 | h0
        · subst h0; omega
        · exact h0
      have := ih (n / 128) (by rw [Nat.pow_succ] at h; omega) hk
      simp; omega
theorem enc_len10 {n : Nat} (h : n < 18446744073709551616) : (enc n).length ≤ 10 := enc_len 10 n (by omega) (by omega)
theorem enc_byte (n : Nat) : ∀ x ∈ enc n, x < 256 := by
  induction n using Nat.strongRecOn with
  | _ n ih =>
    by_cases hn : n < 128
    · rw [enc_lt hn]; intro x hx; simp at hx; omega
    · rw [enc_ge hn]; intro x hx
      rcases List.mem_cons.1 hx with h | h
      · omega
      · exact ih (n / 128) (by omega) x h

theorem info8 : (Try.prog.info? 5).map (fun i => (i.zero, i.size, i.bytes)) = some (some (.int .u8 0), 1, 1) := by kernel_rfl

/-- The call hands back a row of bytes of its own. -/
def RetBytes (l : List Nat) (w : World) (e : Ending) (w' : World) : Prop :=
  ∃ v, e = .returned v ∧ w'.ownsRow w.heap.size 5 1 v l.length (l.map u8v) ∧ Grows w w'

set_option maxHeartbeats 400000 in
set_option maxRecDepth 100000 in
theorem rbytes_any (n : Nat) : ∀ (w : World), n < 18446744073709551616 → Calls Try.prog 35 #[u64v n] w (RetBytes (enc n) w) := by
  induction n using Nat.strongRecOn with
  | _ n ih =>
    intro w hn
    by_cases hlt : n < 128
    · have He := Lib.hid (enc_lt hlt)
      clear ih hn
      go_enter Try.func35, Try.ntmps35
      go_wp2
      go_ret
      refine ⟨.slice (some ⟨w.heap.size, 0, none⟩) 1 1, rfl, ?_, (Grows.refl w).al _⟩
      rw [He.out]
      exact ⟨rfl, .inr ⟨w.heap.size, 1, _, rfl, Nat.le_refl _, heap_new _ _ _ rfl, Nat.le_refl _, by decide, rfl, rfl⟩⟩
    · have He := Lib.hid (enc_ge hlt)
      have Hih := Lib.hid (fun w => ih (n / 128) (by omega) w (by omega))
      have Hw : Hid (IntKind.u64.wrap ((n : Int) / 128) = ((n / 128 : Nat) : Int)) := by
        rw [IntWalk.u64_in _ (by omega)]; exact (Int.natCast_ediv n 128).symm
      have Hlen := Lib.hid (enc_len10 (n := n / 128) (by omega))
      have Hpos := Lib.hid (enc_pos (n / 128))
      obtain ⟨i0, hi, hz0, hz1, hz2⟩ := info_parts info8
      clear ih hn
      go_enter Try.func35, Try.ntmps35
      go_wp2_with fail
      rw [Hw.out]
      refine (Hih.out _).mono ?_
      rintro e w1 ⟨v, rfl, hown, hg⟩
      generalize hm : (enc (n / 128)).length = m at hown Hlen Hpos
      have Hm := Lib.hid hm
      obtain ⟨g, cap, rfl⟩ : ∃ g cap, v = .slice (some ⟨g, 0, none⟩) m cap := by
        obtain ⟨_, ⟨_, h0⟩ | ⟨g, cap, cur, h, _⟩⟩ := hown
        · have := Hpos.out; omega
        · exact ⟨g, cap, h⟩
      have hb0 : w1.heap[w.heap.size]? = some (.cells #[.int .u8 (128 + (n : Int) % 128)] 5 (0, 0)) := Grows.block hg (heap_new _ _ _ rfl)
      have own0 : w1.ownsRow w.heap.size 5 1 (.slice (some ⟨w.heap.size, 0, none⟩) 1 1) 1 [.int .u8 (128 + (n : Int) % 128)] := ⟨rfl, .inr ⟨w.heap.size, 1, _, rfl, Nat.le_refl _, hb0, Nat.le_refl _, by decide, rfl, rfl⟩⟩
      have hcells := World.ownsRow.cells hown (g := g) rfl
      have hl : ((enc (n / 128)).map u8v).length = m * 1 := by rw [List.length_map, Hm.out, Nat.mul_one]
      have hsz := hg.size
      simp only [World.size_alloc] at hsz
      have HG := Lib.hid hg
      have Own0 := Lib.hid own0
      have Hc := Lib.hid hcells
      have Hl := Lib.hid hl
      have Hown := Lib.hid hown
      clear hg own0 hcells hl hown hb0 hm
      go_wp2_with (at_builtin; refine wpList_append_own _ rfl _ _ 24 rfl w.heap.size 5 i0 (.int .u8 0) 1 1 Try.underlying24 hi hz0 hz1 hz2 rfl (by decide) (.slice (some ⟨w.heap.size, 0, none⟩) 1 1) 1 _ rfl Own0.out ⟨g, 0, none⟩ m cap _ rfl Hl.out Hc.out (fun u hu => by obtain ⟨x, _, rfl⟩ := List.mem_map.1 hu; rfl) (by have := Hlen.out; unfold maxLen; omega) (by have := Hlen.out; omega) (by omega) ?_; intro v' w2 hown2 hgrow _; have Ho2 := Lib.hid hown2; have Hg2 := Lib.hid hgrow; clear hown2 hgrow)
      go_ret
      refine ⟨v', rfl, ?_, ?_⟩
      · have := Ho2.out
        rw [He.out, List.length_cons, Hm.out, List.map_cons, Nat.add_comm m 1]
        exact this
      · exact Below.grown ((((Grows.refl w).al _).trans HG.out)) Hg2.out (by omega) (fun k hk => by cases hk; exact Nat.le_refl _)
end Go.Proofs.Ytdiciboaehdckaa
