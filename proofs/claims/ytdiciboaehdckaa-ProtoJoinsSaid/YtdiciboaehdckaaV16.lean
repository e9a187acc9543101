/-
  Layer 7: contracts as the laws use them.
-/
import Derived.Test.YtdiciboaehdckaaV13
import Derived.Test.YtdiciboaehdckaaV10
import Derived.Test.YtdiciboaehdckaaTQ
import Derived.Test.YtdiciboaehdckaaAp
namespace Go.Proofs.Ytdiciboaehdckaa
open Go.RowKit Go.Tab


theorem NumsAt.take {k : IntKind} {w : World} {a : Option Addr} {n cap j : Nat} {l : List Nat} (h : NumsAt k w (.slice a n cap) l) (hj : j ≤ n) : NumsAt k w (.slice a j cap) (l.take j) := by
  obtain ⟨hl, ⟨⟨_, _, h, hz⟩, rfl⟩ | ⟨b', off', cap', hv, hb, hc, hi⟩⟩ := h
  · cases h
    have : j = 0 := by omega
    subst this
    exact ⟨Nat.zero_le _, .inl ⟨⟨_, _, rfl, hz⟩, rfl⟩⟩
  · cases hv
    have hlen : (l.take j).length = j := by rw [List.length_take]; omega
    refine ⟨by omega, .inr ⟨_, _, _, by rw [hlen], hb, by omega, fun i hi' => ?_⟩⟩
    rw [hi i (by omega), getD_take l j i (by omega)]

theorem bytes_one (v : Nat) (x : Nat) (w : World) (h : w.heap[v]? = some (.cells #[.int .u64 (x : Int)] 39 (0, 0))) (hx : x < 18446744073709551616) :
    Calls Try.prog 23 #[.slice (some ⟨v, 0, none⟩) 1 1] w (fun e w' => ∃ u, e = .returned u ∧ NumsAt .u8 w' u (enc x) ∧ Grows w w') := by
  have h2 := (nums_block (k := .u64) (l := [x]) h rfl (by simp)).u64
  refine (bytes_any _ [x] _ h2 (by simp) (by simpa using hx)).mono ?_
  rintro _ w' ⟨u, rfl, hown, hg⟩
  have he : encs [x] = enc x := by simp [encs]
  rw [he] at hown
  exact ⟨u, rfl, ownsRow_nums hown (by have := enc_len10 hx; omega), hg⟩

theorem bytes_row (v : Value) (r l : List Nat) (w : World) (hp : NumsAt .u64 w v r) (h1 : r.length ≤ 1000) (h2 : ∀ x ∈ r, x < 18446744073709551616) (h3 : encs r = l) (h4 : l.length ≤ 17592186044416) :
    Calls Try.prog 23 #[v] w (fun e w' => ∃ u, e = .returned u ∧ NumsAt .u8 w' u l ∧ Grows w w') := by
  refine (bytes_any _ r _ hp.u64 h1 h2).mono ?_
  rintro _ w' ⟨u, rfl, hown, hg⟩
  rw [h3] at hown
  exact ⟨u, rfl, ownsRow_nums hown h4, hg⟩

theorem Same_yes (v u : Value) (a : List Nat) (w : World) (hv : NumsAt .u8 w v a) (hu : NumsAt .u8 w u a) :
    Calls Try.prog 11 #[v, u] w (Ret (.bool true) w) := by
  have := Same_any v u a a w hv hu
  rwa [show decide (a = a) = true by simp] at this


theorem bytes_nums (v : Value) (l : List Nat) (w : World) (hp : NumsAt .u64 w v l) (h1 : l.length ≤ 1000) (h2 : ∀ x ∈ l, x < 18446744073709551616) :
    Calls Try.prog 23 #[v] w (fun e w' => ∃ u, e = .returned u ∧ NumsAt .u8 w' u (encs l) ∧ Grows w w') :=
  bytes_row v l (encs l) w hp h1 h2 rfl (by have := encs_len l h2; omega)
theorem own_empty {w : World} {T : TypeId} {s : Nat} (hs : 0 < s) : (w.alloc (.cells #[] T)).ownsRow w.heap.size T s (.slice (some ⟨w.heap.size, 0, none⟩) 0 0) 0 [] :=
  ⟨by simp, .inr ⟨w.heap.size, 0, #[], rfl, Nat.le_refl _, heap_new _ _ _ rfl, Nat.le_refl _, by unfold maxLen; omega, by simp, by simp⟩⟩
theorem cut_in (cut : Int) (L : Nat) (h1 : 0 < L) (h2 : L ≤ 10) : ∃ k : Nat, wrap64 ((IntKind.u64.wrap cut).tmod L) = (k : Int) ∧ k < L := by
  have h0 : 0 ≤ IntKind.u64.wrap cut := by rw [IntKind.wrap_u64]; omega
  rw [Int.tmod_eq_emod_of_nonneg h0]
  have h3 : 0 ≤ IntKind.u64.wrap cut % (L : Int) := Int.emod_nonneg _ (by omega)
  have h4 : IntKind.u64.wrap cut % (L : Int) < L := Int.emod_lt_of_pos _ (by omega)
  generalize IntKind.u64.wrap cut % (L : Int) = m at h3 h4
  refine ⟨m.toNat, ?_, by omega⟩
  rw [IntWalk.wrap64_in m (by omega)]
  omega
end Go.Proofs.Ytdiciboaehdckaa
