/-
  Layer 22: how many edges of a row a box shows.
-/
import Derived.Test.YtlkihbehiojimaaK9
namespace Go.Proofs.Ytlkihbehiojimaa
open Go.RowKit Go.Tab Go.WideShapes

def cntL (ps : List (Nat × Nat)) : Nat := (ps.map fun p => p.2 - p.1).sum
theorem cntL_succ (ps : List (Nat × Nat)) (k : Nat) (h : k < ps.length) : cntL (ps.take (k + 1)) = cntL (ps.take k) + (ps[k].2 - ps[k].1) := by
  unfold cntL
  rw [List.take_succ_eq_append_getElem h, List.map_append, List.sum_append]
  simp
theorem cntL_le (ps : List (Nat × Nat)) (h : ∀ p ∈ ps, p.2 ≤ 1000) : ∀ k, cntL (ps.take k) ≤ k * 1000 := by
  intro k
  induction k with
  | zero => simp [cntL]
  | succ k ih =>
    by_cases hk : k < ps.length
    · rw [cntL_succ ps k hk]
      have := h _ (List.getElem_mem hk)
      rw [Nat.succ_mul]
      exact Nat.add_le_add ih (Nat.le_trans (Nat.sub_le _ _) this)
    · rw [List.take_of_length_le (by omega)] at ih ⊢
      exact Nat.le_trans ih (Nat.mul_le_mul_right _ (Nat.le_succ k))
theorem cntL_parts_le (s : Nat → Bool) (n : Nat) (hn : n ≤ 1000) : ∀ p ∈ partsI s n 0, p.2 ≤ 1000 := fun p hp => by
  have := (parts_maxi s n p).1 hp
  have := this.2.1
  omega
/-- An owned row of one-cell elements, as a walk wants it. -/
theorem own1_form {w : World} {base : Nat} {T : TypeId} {v : Value} {n : Nat} {xs : List Value} (h : w.ownsRow base T 1 v n xs) :
    ∃ a cap, v = .slice a n cap ∧ n ≤ cap ∧ xs.length = n ∧ ∀ k x, xs[k]? = some x → ∃ g, a = some ⟨g, 0, none⟩ ∧ ∀ w', Grows w w' → w'.cell? ⟨g, k, none⟩ = some x := by
  obtain ⟨hl, ⟨rfl, rfl⟩ | ⟨g, cap, cur, rfl, hb, hh, h1, h2, h3, h4⟩⟩ := h
  · refine ⟨_, _, rfl, Nat.le_refl _, by omega, fun k x hx => ?_⟩
    have : xs = [] := List.eq_nil_of_length_eq_zero (by omega)
    subst this
    simp at hx
  · refine ⟨_, _, rfl, h1, by omega, fun k x hx => ⟨g, rfl, fun w' hg => ?_⟩⟩
    rw [← h4] at hx
    have hx' : cur[k]? = some x := by
      rw [List.getElem?_take] at hx
      split at hx
      · rw [← Array.getElem?_toList]; exact hx
      · cases hx
    have hb' := hg.block hh
    simp only [World.cell?, hb']
    exact hx'

set_option maxHeartbeats 2000000 in
theorem count_any (u : Value) (l : List (Int × Int)) (b : BoxI) (w : World) (hu : PtsAt w u l) (hn : l.length ≤ 1000) :
    Calls Try.prog 16 #[u, bx b] w (Ret (.int .i64 (cntL (partsI (shS b l) l.length 0) : Int)) w) := by
  have HPA := Lib.hid (parts_any u l b _ (hu.grows ((Grows.refl w).al (.cells #[.int .i64 b.lx, .int .i64 b.ly, .int .i64 b.hx, .int .i64 b.hy] 26))) hn)
  have HLE := Lib.hid (cntL_le (partsI (shS b l) l.length 0) (cntL_parts_le _ _ hn))
  have HLN := Lib.hid (Nat.le_trans (parts_len (shS b l) l.length) hn)
  obtain ⟨ps, hps⟩ : ∃ ps, ps = partsI (shS b l) l.length 0 := ⟨_, rfl⟩
  unfold RetParts at HPA
  rw [← hps] at HPA HLE HLN ⊢
  clear hps hu hn
  go_enter Try.func16, Try.ntmps16
  go_wp2_with fail
  refine HPA.out.mono ?_
  rintro _ w1 ⟨v, g, cp, rfl, hown, -, hg⟩
  have HG := Lib.hid (((Grows.refl w).al _).trans hg)
  obtain ⟨a, cap, rfl, hmc, hxl, hc⟩ := own1_form hown
  have HC := Lib.hid hc
  have hm := HLN.out
  obtain ⟨m, hmm⟩ : ∃ m, m = ps.length := ⟨_, rfl⟩
  rw [← hmm] at hmc hm ⊢
  have HM := Lib.hid hmm
  clear hown hg hc hxl hmm
  go_wp2
  go_loopw [5, 12] (fun s i wr => ∃ k : Nat, s = .int .i64 (cntL (ps.take k) : Int) ∧ i = .int .i64 (k : Int) ∧ k ≤ m ∧ Grows w1 wr) (fun _ i _ => 1001 - (intOf i).toNat)
  case atStart => exact ⟨0, rfl, rfl, Nat.zero_le _, Grows.refl _⟩
  case round =>
    obtain ⟨k, rfl, rfl, hk, hg⟩ := hrel
    have G := Lib.hid hg
    clear hg
    by_cases hkm : k < m
    · have hkp : k < ps.length := by rw [← HM.out]; exact hkm
      obtain ⟨g2, rfl, hc⟩ := HC.out k (rowV g ps[k]) (by rw [List.getElem?_map, List.getElem?_eq_getElem hkp]; rfl)
      have c1 := hc _ G.out
      have HS := Lib.hid (cntL_succ ps k hkp)
      have hp2 := HLE.out (k + 1)
      have hp3 := HLE.out k
      rw [HS.out] at hp2
      unfold rowV at c1
      generalize ps[k].1 = i0 at c1 HS hp2
      generalize ps[k].2 - i0 = e at c1 HS hp2
      generalize cntL (ps.take k) = c at HS hp2 hp3 ⊢
      have e0 : (e : Int) + 1 - 1 = (e : Int) := by omega
      have e1 : IntKind.i64.wrap (e : Int) = (e : Int) := IntWalk.i64_in _ (by omega)
      have e2 : IntKind.i64.wrap ((c : Int) + (e : Int)) = (c : Int) + (e : Int) := IntWalk.i64_in _ (by omega)
      clear hc hkp
      go_wp2
      exact ⟨⟨k + 1, by rw [HS.out]; simp, by simp, by omega, G.out⟩, by simp only [intOf]; omega⟩
    · have hkn : k = m := by omega
      have HT : Hid (ps.take k = ps) := Lib.hid (List.take_of_length_le (by rw [← HM.out]; omega))
      go_wp2
      go_ret
      exact ⟨by rw [HT.out]; rfl, HG.out.trans G.out⟩
end Go.Proofs.Ytlkihbehiojimaa
