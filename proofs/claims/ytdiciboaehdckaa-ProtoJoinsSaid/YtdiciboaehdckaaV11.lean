/-
  Layer 7: the bytes of what was read are those that were read.
-/
import Derived.Test.YtdiciboaehdckaaV10
namespace Go.Proofs.Ytdiciboaehdckaa
open Go.RowKit Go.Tab

theorem enc_val_lead : ∀ (l : List Nat), (∀ x ∈ l, x < 256) → lead l < l.length → ¬ (0 < lead l ∧ l.getD (lead l) 0 = 0) → enc (val (l.take (lead l + 1))) = l.take (lead l + 1)
  | [], _, h, _ => by simp [lead] at h
  | x :: l, hx, h, hz => by
    have hx0 : x < 256 := hx x List.mem_cons_self
    by_cases h1 : 128 ≤ x
    · have hl : lead (x :: l) = lead l + 1 := by simp [lead, h1]
      rw [hl] at h hz ⊢
      have h' : lead l < l.length := by simpa using h
      have hlast : ¬ l.getD (lead l) 0 = 0 := fun he => hz ⟨Nat.succ_pos _, by simpa using he⟩
      have ih := enc_val_lead l (fun y hy => hx y (List.mem_cons_of_mem _ hy)) h' (fun hc => hlast hc.2)
      rw [List.take_succ_cons, val]
      have hne : ¬ val (l.take (lead l + 1)) = 0 := fun h0 => by
        rw [h0, enc_lt (by decide)] at ih
        have hlen := congrArg List.length ih
        rw [List.length_take] at hlen
        simp at hlen
        have h00 : lead l = 0 := by omega
        rw [h00] at ih hlast
        match l, ih with
        | y :: l', ih => simp at ih; exact hlast (by simp [← ih])
      have hge : ¬ (x % 128 + 128 * val (l.take (lead l + 1))) < 128 := by omega
      rw [enc_ge hge]
      rw [show (x % 128 + 128 * val (l.take (lead l + 1))) / 128 = val (l.take (lead l + 1)) by omega, ih, show 128 + (x % 128 + 128 * val (l.take (lead l + 1))) % 128 = x by omega]
    · have hl : lead (x :: l) = 0 := by simp [lead, h1]
      rw [hl]
      show enc (x % 128 + 128 * 0) = [x]
      rw [enc_lt (by omega)]
      congr 1
      omega

theorem rd_enc (l : List Nat) (hx : ∀ x ∈ l, x < 256) (h : (rd l).2.2 = 0) : enc (rd l).1 = l.take (rd l).2.1 := by
  have := lead_le l
  by_cases h1 : 10 ≤ lead l
  · rw [rd_range h1] at h; cases h
  by_cases h2 : lead l = l.length
  · rw [rd_end h1 h2] at h; cases h
  by_cases h3 : lead l = 9 ∧ 1 < l.getD 9 0
  · rw [rd_nine h1 h2 h3] at h; cases h
  by_cases h4 : 0 < lead l ∧ l.getD (lead l) 0 = 0
  · rw [rd_zero h1 h2 h3 h4] at h; cases h
  rw [rd_ok h1 h2 h3 h4]
  exact enc_val_lead l hx (by omega) h4

theorem encs_snoc (l : List Nat) (x : Nat) : encs (l ++ [x]) = encs l ++ enc x := by simp [encs]

theorem rowsFrom_enc (l : List Nat) (hx : ∀ x ∈ l, x < 256) : ∀ (f p : Nat) (acc : List Nat), l.length - p ≤ f → p ≤ l.length → encs acc = l.take p → (rowsFrom l f p acc).2.2 = 0 → encs (rowsFrom l f p acc).1 = l
  | 0, p, acc, hf, hp, ha, _ => by
    show encs acc = l
    rw [ha, List.take_of_length_le (by omega)]
  | f + 1, p, acc, hf, hp, ha, h => by
    by_cases hlt : l.length ≤ p
    · rw [rowsFrom_done hlt]
      show encs acc = l
      rw [ha, List.take_of_length_le hlt]
    · by_cases he : (rd (l.drop p)).2.2 = 0
      · have hu : rowsFrom l (f + 1) p acc = rowsFrom l f (p + (rd (l.drop p)).2.1) (acc ++ [(rd (l.drop p)).1]) := by rw [rowsFrom, if_neg hlt, if_pos he]
        rw [hu] at h ⊢
        have hs := rd_size _ he
        rw [List.length_drop] at hs
        refine rowsFrom_enc l hx f _ _ (by omega) (by omega) ?_ h
        rw [encs_snoc, ha, rd_enc _ (fun x hm => hx x (List.mem_of_mem_drop hm)) he, List.take_add]
      · rw [rowsFrom_bad (by omega) hf he] at h
        exact absurd h he
theorem rows_enc (l : List Nat) (hx : ∀ x ∈ l, x < 256) (h : (rows l).2.2 = 0) : encs (rows l).1 = l :=
  rowsFrom_enc l hx l.length 0 [] (by omega) (Nat.zero_le _) rfl h
end Go.Proofs.Ytdiciboaehdckaa
