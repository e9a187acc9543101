/-
  Layer 5: entries in a row; a heap's row rises.
-/
import Derived.Test.YtcmlcoedgfehgaaH1
import Derived.Scope
import Derived.WalkMore
import Derived.ScopeJumps
import Derived.Laws.OwnMore
namespace Go.Proofs.Ytcmlcoedgfehgaa
open Go.RowKit Go.Tab Go.WideShapes

abbrev Ent3 := Int × Int × Int
def flat3 (l : List Ent3) : List Value := l.flatMap fun e => [.int .i64 e.1, .int .i64 e.2.1, .int .i64 e.2.2]
theorem flat3_length (l : List Ent3) : (flat3 l).length = l.length * 3 := by
  induction l with
  | nil => rfl
  | cons p l ih => simp only [flat3, List.flatMap_cons, List.length_append, List.length_cons, List.length_nil] at ih ⊢; omega
theorem flat3_append (l m : List Ent3) : flat3 (l ++ m) = flat3 l ++ flat3 m := by simp [flat3]
abbrev e0 : Ent3 := (0, 0, 0)
theorem flat3_get (l : List Ent3) (i : Nat) (h : i < l.length) : (flat3 l)[i * 3]? = some (.int .i64 (l.getD i e0).1) ∧ (flat3 l)[i * 3 + 1]? = some (.int .i64 (l.getD i e0).2.1) ∧ (flat3 l)[i * 3 + 2]? = some (.int .i64 (l.getD i e0).2.2) := by
  induction l generalizing i with
  | nil => cases h
  | cons p l ih =>
    cases i with
    | zero => exact ⟨rfl, rfl, rfl⟩
    | succ i =>
      have := ih i (by simpa using h)
      rw [Nat.succ_mul]
      exact this
theorem flat3_set (l : List Ent3) (i : Nat) (e : Ent3) (h : i < l.length) : (((flat3 l).set (i * 3) (.int .i64 e.1)).set (i * 3 + 1) (.int .i64 e.2.1)).set (i * 3 + 2) (.int .i64 e.2.2) = flat3 (l.set i e) := by
  induction l generalizing i with
  | nil => cases h
  | cons p l ih =>
    cases i with
    | zero => rfl
    | succ i =>
      have := ih i (by simpa using h)
      rw [Nat.succ_mul]
      simp only [flat3, List.flatMap_cons, List.set_cons_succ, List.cons_append, List.nil_append] at this ⊢
      rw [← this]

section
variable {w : World} {B : Nat} {T : TypeId} {g n cap : Nat} {L : List Ent3}
theorem own3_cells (h : w.ownsRow B T 3 (.slice (some ⟨g, 0, none⟩) n cap) n (flat3 L)) (hn : L.length = n) {i : Nat} (hi : i < n) :
    w.cell? ⟨g, i * 3, none⟩ = some (.int .i64 (L.getD i e0).1) ∧ w.cell? ⟨g, i * 3 + 1, none⟩ = some (.int .i64 (L.getD i e0).2.1) ∧ w.cell? ⟨g, i * 3 + 2, none⟩ = some (.int .i64 (L.getD i e0).2.2) := by
  obtain ⟨h1, h2, h3⟩ := flat3_get L i (by omega)
  exact ⟨(h.cellAt _ (by omega)).trans h1, (h.cellAt _ (by omega)).trans h2, (h.cellAt _ (by omega)).trans h3⟩
theorem grownBy_trans {a b c : World} {r : Option Nat} (h1 : a.grownBy b r) (h2 : b.grownBy c r) : a.grownBy c r :=
  ⟨h2.os.trans h1.os, h2.tape.trans h1.tape, h2.output.trans h1.output, Nat.le_trans h1.size h2.size, fun k hk hr => (h2.block k (Nat.lt_of_lt_of_le hk h1.size) hr).trans (h1.block k hk hr)⟩
theorem own3_set (h : w.ownsRow B T 3 (.slice (some ⟨g, 0, none⟩) n cap) n (flat3 L)) (hn : L.length = n) {i : Nat} (hi : i < n) (e : Ent3) :
    (((w.setCell ⟨g, i * 3, none⟩ (.int .i64 e.1)).setCell ⟨g, i * 3 + 1, none⟩ (.int .i64 e.2.1)).setCell ⟨g, i * 3 + 2, none⟩ (.int .i64 e.2.2)).ownsRow B T 3 (.slice (some ⟨g, 0, none⟩) n cap) n (flat3 (L.set i e)) ∧
    w.grownBy (((w.setCell ⟨g, i * 3, none⟩ (.int .i64 e.1)).setCell ⟨g, i * 3 + 1, none⟩ (.int .i64 e.2.1)).setCell ⟨g, i * 3 + 2, none⟩ (.int .i64 e.2.2)) (some g) := by
  obtain ⟨h1, g1⟩ := h.stored (i * 3) (.int .i64 e.1)
  obtain ⟨h2, g2⟩ := h1.stored (i * 3 + 1) (.int .i64 e.2.1)
  obtain ⟨h3, g3⟩ := h2.stored (i * 3 + 2) (.int .i64 e.2.2)
  rw [flat3_set L i e (by omega)] at h3
  exact ⟨h3, grownBy_trans (grownBy_trans g1 g2) g3⟩
end

theorem ownsRow_grows' {w w' : World} {base : Nat} {T : TypeId} {s : Nat} {v : Value} {n : Nat} {xs : List Value} (h : w.ownsRow base T s v n xs) (hg : Grows w w') : w'.ownsRow base T s v n xs := by
  obtain ⟨h0, h1 | ⟨g, cap, cur, hv, hb, hh, rest⟩⟩ := h
  · exact ⟨h0, .inl h1⟩
  · exact ⟨h0, .inr ⟨g, cap, cur, hv, hb, hg.block hh, rest⟩⟩

/-- Two entries changed for one another. -/
def swapF (L : List Ent3) (i j : Nat) : List Ent3 := (L.set i (L.getD j e0)).set j (L.getD i e0)
theorem swapF_len (L : List Ent3) (i j : Nat) : (swapF L i j).length = L.length := by simp [swapF]
/-- An entry brought up. -/
def riseF (L : List Ent3) (p : Nat) : List Ent3 :=
  if h : 0 < p then (if lessE (L.getD p e0) (L.getD ((p - 1) / 2) e0) = true then riseF (swapF L p ((p - 1) / 2)) ((p - 1) / 2) else L) else L
termination_by p
decreasing_by omega
theorem riseF_zero (L : List Ent3) : riseF L 0 = L := by rw [riseF, dif_neg (by omega)]
theorem riseF_no {L : List Ent3} {p : Nat} (h : lessE (L.getD p e0) (L.getD ((p - 1) / 2) e0) = false) : riseF L p = L := by
  by_cases hp : 0 < p
  · rw [riseF, dif_pos hp, if_neg (by rw [h]; decide)]
  · rw [riseF, dif_neg hp]
theorem riseF_yes {L : List Ent3} {p : Nat} (hp : 0 < p) (h : lessE (L.getD p e0) (L.getD ((p - 1) / 2) e0) = true) : riseF L p = riseF (swapF L p ((p - 1) / 2)) ((p - 1) / 2) := by
  rw [riseF, dif_pos hp, if_pos h]
theorem riseF_len (L : List Ent3) (p : Nat) : (riseF L p).length = L.length := by
  induction p using Nat.strongRecOn generalizing L with
  | _ p ih =>
    by_cases hp : 0 < p
    · cases h : lessE (L.getD p e0) (L.getD ((p - 1) / 2) e0) with
      | false => rw [riseF_no h]
      | true => rw [riseF_yes hp h, ih _ (by omega), swapF_len]
    · rw [show p = 0 by omega, riseF_zero]

/-- A scope in which the run jumps back to its label, which it also comes to from above: the rounds are walked once. -/
theorem wp_scope_label {P : Program} {c body : Code} {Q : Exit → Act → World → Prop} {a : Act} {w : World} (l : Nat) (J : Act → World → Prop) (μ : Act → World → Nat) (hf : findLabel c l = some (.seq .skip body))
    (first : (∀ a w, J a w → body.wp P (Exit.jump l J Q) a w) → c.wp P (Exit.jump l J Q) a w)
    (pass : ∀ a w, J a w → body.wp P (Exit.jump l (fun a' w' => J a' w' ∧ μ a' w' < μ a w) Q) a w) : (Code.scope c).wp P Q a w := by
  refine wp_scope_jumps l J μ hf (first fun a w hJ => Code.wp_mono (fun e a' w' h => ?_) (pass a w hJ)) (fun a w hJ => wp_seq (wp_skip (pass a w hJ)))
  cases e <;> first | exact h | exact ⟨h.1, h.2.1⟩
end Go.Proofs.Ytcmlcoedgfehgaa
