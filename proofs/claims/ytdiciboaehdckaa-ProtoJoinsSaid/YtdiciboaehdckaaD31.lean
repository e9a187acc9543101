/-
  Layer 8: what was told is read as it was.
-/
import Derived.Test.YtdiciboaehdckaaD26
namespace Go.Proofs.Ytdiciboaehdckaa
open Go.RowKit Go.Tab

theorem lk_word {L : List Nat} {r1 r2 kd sz : Nat} (hr : rd L = (r1, r2, 0)) (h1 : 1 ≤ r1 / 8) (h2 : r1 / 8 ≤ 536870911) (hk : r1 % 8 = kd) (hks : (kd = 1 ∧ sz = 8) ∨ (kd = 5 ∧ sz = 4)) (hl : r2 + sz ≤ L.length) : lk L = (r1 / 8, kd, 0, r2, sz, 0) := by
  unfold lk
  rw [hr]
  simp only
  rw [if_neg (by simp), if_neg (by omega), hk]
  rcases hks with ⟨rfl, rfl⟩ | ⟨rfl, rfl⟩
  · rw [if_neg (by decide), if_pos rfl, if_neg (by omega)]
  · rw [if_neg (by decide), if_neg (by decide), if_pos rfl, if_neg (by omega)]
theorem lk_num {L : List Nat} {r1 r2 s1 s2 : Nat} (hr : rd L = (r1, r2, 0)) (h1 : 1 ≤ r1 / 8) (h2 : r1 / 8 ≤ 536870911) (hk : r1 % 8 = 0) (hs : rd (L.drop r2) = (s1, s2, 0)) : lk L = (r1 / 8, 0, s1, r2 + s2, 0, 0) := by
  unfold lk
  rw [hr]
  simp only
  rw [hs]
  rw [if_neg (by simp), if_neg (by omega), hk, if_neg (by decide), if_neg (by decide), if_neg (by decide), if_neg (by simp), if_pos rfl]
theorem lk_bytes {L : List Nat} {r1 r2 s1 s2 : Nat} (hr : rd L = (r1, r2, 0)) (h1 : 1 ≤ r1 / 8) (h2 : r1 / 8 ≤ 536870911) (hk : r1 % 8 = 2) (hs : rd (L.drop r2) = (s1, s2, 0)) (hl : r2 + s2 + s1 ≤ L.length) : lk L = (r1 / 8, 2, 0, r2 + s2, s1, 0) := by
  unfold lk
  rw [hr]
  simp only
  rw [hs]
  rw [if_neg (by simp), if_neg (by omega), hk, if_neg (by decide), if_neg (by decide), if_neg (by decide), if_neg (by simp), if_neg (by decide)]
  simp only
  rw [if_neg (by omega)]
theorem rdF_mk {L : List Nat} {num kind n head size : Nat} (he : lk L = (num, kind, n, head, size, 0)) : rdF L = (⟨num, kind, if kind = 1 ∨ kind = 5 then fromL ((L.drop head).take size) else n, if kind = 2 then (L.drop head).take size else []⟩, head + size, 0) := by
  unfold rdF
  rw [he]
  simp

theorem rdF_wrB (f : Fld) (r : List Nat) (hok : f.Ok) (h0 : okF f = 0) : rdF (wrB f ++ r) = (f, (wrB f).length, 0) := by
  obtain ⟨hn1, hn2, hk⟩ := okF_zero h0
  have hn := hok.n
  have hlen := hok.len
  clear hok h0
  obtain ⟨num, kind, n, bs⟩ := f
  simp only at hn1 hn2 hk hn hlen
  obtain ⟨m, rfl⟩ : ∃ m : Nat, num = m := ⟨num.toNat, by omega⟩
  have key : ∀ (kd : Nat) (X : List Nat), kd < 8 → rd (enc (8 * (m : Int) + (kd : Int)).toNat ++ X) = (8 * m + kd, (enc (8 * m + kd)).length, 0) := fun kd X hkd => by
    rw [show (8 * (m : Int) + (kd : Int)).toNat = 8 * m + kd by omega]
    exact rd_of_enc _ _ (by omega)
  have hd : ∀ kd : Nat, kd < 8 → (8 * m + kd) / 8 = m ∧ (8 * m + kd) % 8 = kd := fun kd h => by omega
  have hE : ∀ kd : Nat, enc (8 * (m : Int) + (kd : Int)).toNat = enc (8 * m + kd) := fun kd => by rw [show (8 * (m : Int) + (kd : Int)).toNat = 8 * m + kd by omega]
  rcases hk with ⟨rfl, rfl⟩ | ⟨rfl, rfl⟩ | ⟨rfl, rfl⟩ | ⟨rfl, rfl, hf⟩
  · have hw : wrB ⟨m, 0, n, []⟩ = enc (8 * (m : Int) + (0 : Nat)).toNat ++ enc n := rfl
    obtain ⟨d1, d2⟩ := hd 0 (by decide)
    have hr := key 0 (enc n ++ r) (by decide)
    rw [hw, hE, List.append_assoc] at *
    have hs : rd ((enc (8 * m + 0) ++ (enc n ++ r)).drop (enc (8 * m + 0)).length) = (n, (enc n).length, 0) := by
      rw [List.drop_left]
      exact rd_of_enc _ _ hn
    rw [rdF_mk (lk_num hr (by omega) (by omega) d2 hs), d1]
    simp
  · have hw : wrB ⟨m, 1, n, []⟩ = enc (8 * (m : Int) + (1 : Nat)).toNat ++ lowL n 8 := rfl
    obtain ⟨d1, d2⟩ := hd 1 (by decide)
    have hr := key 1 (lowL n 8 ++ r) (by decide)
    rw [hw, hE, List.append_assoc] at *
    have hll := lowL_len n 8
    rw [rdF_mk (lk_word hr (by omega) (by omega) d2 (.inl ⟨rfl, rfl⟩) (by simp only [List.length_append]; omega)), d1]
    rw [List.drop_left, List.take_left' hll, fromL_lowL, Nat.mod_eq_of_lt hn]
    simp [hll]
  · have hw : wrB ⟨m, 2, 0, bs⟩ = enc (8 * (m : Int) + (2 : Nat)).toNat ++ (enc bs.length ++ bs) := rfl
    obtain ⟨d1, d2⟩ := hd 2 (by decide)
    have hr := key 2 (enc bs.length ++ (bs ++ r)) (by decide)
    rw [hE] at hr
    rw [hw, hE]
    simp only [List.append_assoc]
    have hs : rd ((enc (8 * m + 2) ++ (enc bs.length ++ (bs ++ r))).drop (enc (8 * m + 2)).length) = (bs.length, (enc bs.length).length, 0) := by
      rw [List.drop_left]
      exact rd_of_enc _ _ (by omega)
    rw [rdF_mk (lk_bytes hr (by omega) (by omega) d2 hs (by simp only [List.length_append]; omega)), d1]
    rw [← List.drop_drop, List.drop_left, List.drop_left, List.take_left]
    simp [Nat.add_assoc]
  · have hw : wrB ⟨m, 5, n, []⟩ = enc (8 * (m : Int) + (5 : Nat)).toNat ++ lowL n 4 := rfl
    obtain ⟨d1, d2⟩ := hd 5 (by decide)
    have hr := key 5 (lowL n 4 ++ r) (by decide)
    rw [hw, hE, List.append_assoc] at *
    have hll := lowL_len n 4
    rw [rdF_mk (lk_word hr (by omega) (by omega) d2 (.inr ⟨rfl, rfl⟩) (by simp only [List.length_append]; omega)), d1]
    rw [List.drop_left, List.take_left' hll, fromL_lowL, Nat.mod_eq_of_lt (show n < 256 ^ 4 by omega)]
    simp [hll]

theorem wrB_pos (f : Fld) : 0 < (wrB f).length := by
  unfold wrB
  rw [List.length_append]
  have := enc_pos (8 * f.num + f.kind).toNat
  omega
theorem allFrom_wr (L : List Nat) : ∀ (fs : List Fld) (f p : Nat) (acc : List Fld), (∀ g ∈ fs, okF g = 0 ∧ g.Ok) → p ≤ L.length → L.length - p ≤ f → L.drop p = fs.flatMap wrB → allFrom L f p acc = (acc ++ fs, 0, 0)
  | [], f, p, acc, _, hp, hf, hd => by
    have : L.length ≤ p := by have := congrArg List.length hd; simp at this; omega
    rw [allFrom_done this, List.append_nil]
  | g :: fs, f, p, acc, hk, hp, hf, hd => by
    have hpos := wrB_pos g
    have hlen := congrArg List.length hd
    rw [List.flatMap_cons, List.length_append, List.length_drop] at hlen
    obtain ⟨f', rfl⟩ : ∃ f', f = f' + 1 := ⟨f - 1, by omega⟩
    obtain ⟨hg0, hg⟩ := hk g (by simp)
    have hr : rdF (L.drop p) = (g, (wrB g).length, 0) := by
      rw [hd, List.flatMap_cons]
      exact rdF_wrB g _ hg hg0
    rw [allFrom, if_neg (by omega), hr, if_pos rfl]
    rw [allFrom_wr L fs f' _ _ (fun x hx => hk x (List.mem_cons_of_mem _ hx)) (by simp only; omega) (by simp only; omega)]
    · simp
    · simp only
      rw [← List.drop_drop, hd, List.flatMap_cons, List.drop_left]
theorem all_wr (fs : List Fld) (hk : ∀ g ∈ fs, okF g = 0 ∧ g.Ok) : allF (fs.flatMap wrB) = (fs, 0, 0) := by
  have := allFrom_wr (fs.flatMap wrB) fs (fs.flatMap wrB).length 0 [] hk (Nat.zero_le _) (by omega) (by simp)
  simpa [allF] using this
theorem lowL_byte (n k : Nat) : ∀ x ∈ lowL n k, x < 256 := by
  induction k with
  | zero => intro x hx; simp [lowL] at hx
  | succ k ih =>
    intro x hx
    rw [lowL] at hx
    rcases List.mem_append.1 hx with h | h
    · exact ih x h
    · rw [List.mem_singleton] at h; subst h; exact Nat.mod_lt _ (by decide)
theorem wrB_byte (f : Fld) (h : f.Ok) : ∀ x ∈ wrB f, x < 256 := by
  intro x hx
  unfold wrB at hx
  rcases List.mem_append.1 hx with hx | hx
  · exact enc_byte _ x hx
  · split at hx
    · exact enc_byte _ x hx
    · split at hx
      · exact lowL_byte _ _ x hx
      · split at hx
        · exact lowL_byte _ _ x hx
        · rcases List.mem_append.1 hx with hx | hx
          · exact enc_byte _ x hx
          · exact h.bs x hx
theorem flat_byte (fs : List Fld) (h : ∀ f ∈ fs, f.Ok) : ∀ x ∈ fs.flatMap wrB, x < 256 := by
  intro x hx
  obtain ⟨f, hf, hx⟩ := List.mem_flatMap.1 hx
  exact wrB_byte f (h f hf) x hx
end Go.Proofs.Ytdiciboaehdckaa
