/-
  Layer 22: rows put together, as the document's: rows of rows of the call's own.
-/
import Derived.Test.YtlkihbehiojimaaK16
import Derived.Test.YtlkihbehiojimaaRB
namespace Go.Proofs.Ytlkihbehiojimaa
open Go.RowKit Go.Tab Go.WideShapes

theorem infoRow : (Try.prog.info? 28).map (fun i => (i.zero, i.size, i.bytes)) = some (some (.slice none 0 0), 1, 24) := by kernel_rfl
theorem infoRowP : (Try.prog.info? 22).map (fun i => (i.zero, i.size, i.bytes)) = some (some (.slice none 0 0), 1, 24) := by kernel_rfl
/-- Values that own these rows, in blocks below B. -/
def Fin (T : TypeId) (B : Nat) (w : World) (vs : List Value) (ps : List (List (Int × Int))) : Prop := vs.length = ps.length ∧ ∀ (i : Nat) (x : Value) (q : List (Int × Int)), vs[i]? = some x → ps[i]? = some q →
  x.oneCell' = true ∧ q.length ≤ 100000 ∧ w.ownsRow 0 T 2 x q.length (flat q) ∧ ∀ k, x.ownBlock = some k → k < B
theorem Fin.nil (T : TypeId) (B : Nat) (w : World) : Fin T B w [] [] := ⟨rfl, fun i x q hx => by simp at hx⟩
theorem Fin.more {T : TypeId} {B B' : Nat} {w : World} {vs : List Value} {ps : List (List (Int × Int))} (h : Fin T B w vs ps) (hB : B ≤ B') : Fin T B' w vs ps :=
  ⟨h.1, fun i x q hx hq => ⟨(h.2 i x q hx hq).1, (h.2 i x q hx hq).2.1, (h.2 i x q hx hq).2.2.1, fun k hk => Nat.lt_of_lt_of_le ((h.2 i x q hx hq).2.2.2 k hk) hB⟩⟩
theorem Fin.grows {T : TypeId} {B : Nat} {w w' : World} {vs : List Value} {ps : List (List (Int × Int))} (h : Fin T B w vs ps) (hg : Grows w w') : Fin T B w' vs ps :=
  ⟨h.1, fun i x q hx hq => ⟨(h.2 i x q hx hq).1, (h.2 i x q hx hq).2.1, ownsRow_later (h.2 i x q hx hq).2.2.1 hg, (h.2 i x q hx hq).2.2.2⟩⟩
/-- A row of other elements grows. -/
theorem Fin.other {T T1 : TypeId} {B : Nat} {w w' : World} {vs : List Value} {ps : List (List (Int × Int))} {base s n : Nat} {v : Value} {xs : List Value} (h : Fin T B w vs ps) (ho : w.ownsRow base T1 s v n xs) (hT : T1 ≠ T) (hg : w.grownBy w' v.ownBlock) : Fin T B w' vs ps :=
  ⟨h.1, fun i x q hx hq => ⟨(h.2 i x q hx hq).1, (h.2 i x q hx hq).2.1, own_other ho (h.2 i x q hx hq).2.2.1 hT hg, (h.2 i x q hx hq).2.2.2⟩⟩
/-- A row from B on grows. -/
theorem Fin.beyond {T : TypeId} {B : Nat} {w w' : World} {vs : List Value} {ps : List (List (Int × Int))} {row : Option Nat} (h : Fin T B w vs ps) (hg : w.grownBy w' row) (hr : ∀ k, row = some k → B ≤ k) : Fin T B w' vs ps :=
  ⟨h.1, fun i x q hx hq => ⟨(h.2 i x q hx hq).1, (h.2 i x q hx hq).2.1, (h.2 i x q hx hq).2.2.1.kept hg (by
    cases hb : x.ownBlock with
    | none => exact .inl rfl
    | some k =>
      right
      intro e
      have h1 := (h.2 i x q hx hq).2.2.2 k hb
      have h2 := hr k e.symm
      omega), (h.2 i x q hx hq).2.2.2⟩⟩
theorem Fin.push {T : TypeId} {B : Nat} {w : World} {vs : List Value} {ps : List (List (Int × Int))} {x : Value} {q : List (Int × Int)} (h : Fin T B w vs ps) (hx : x.oneCell' = true) (hq : q.length ≤ 100000) (hp : w.ownsRow 0 T 2 x q.length (flat q)) (hb : ∀ k, x.ownBlock = some k → k < B) : Fin T B w (vs ++ [x]) (ps ++ [q]) := by
  refine ⟨by simp [h.1], fun i y r hy hr => ?_⟩
  by_cases hi : i < vs.length
  · rw [List.getElem?_append_left hi] at hy
    rw [List.getElem?_append_left (by rw [← h.1]; exact hi)] at hr
    exact h.2 i y r hy hr
  · rw [List.getElem?_append_right (by omega)] at hy
    rw [List.getElem?_append_right (by rw [← h.1]; omega), ← h.1] at hr
    have : i - vs.length = 0 := by
      by_cases h0 : i - vs.length = 0
      · exact h0
      · rw [List.getElem?_eq_none (by simp; omega)] at hy; cases hy
    rw [this] at hy hr
    cases hy
    cases hr
    exact ⟨hx, hq, hp, hb⟩
theorem own_lt {w : World} {base : Nat} {T : TypeId} {s : Nat} {v : Value} {n : Nat} {xs : List Value} (h : w.ownsRow base T s v n xs) : ∀ k, v.ownBlock = some k → base ≤ k ∧ k < w.heap.size := by
  obtain ⟨_, ⟨rfl, _⟩ | ⟨g, cap, cur, rfl, hb, hh, _⟩⟩ := h
  · intro k hk; cases hk
  · intro k hk; cases hk; exact ⟨hb, (Array.getElem?_eq_some_iff.1 hh).1⟩
theorem own_one {w : World} {base : Nat} {T : TypeId} {s : Nat} {v : Value} {n : Nat} {xs : List Value} (h : w.ownsRow base T s v n xs) : v.oneCell' = true ∧ ∃ a c, v = .slice a n c ∧ n ≤ c ∧ (a = none → c = 0) := by
  obtain ⟨_, ⟨rfl, rfl⟩ | ⟨g, cap, cur, rfl, hb, hh, hc, _⟩⟩ := h
  · exact ⟨rfl, none, 0, rfl, Nat.le_refl _, fun _ => rfl⟩
  · exact ⟨rfl, _, _, rfl, hc, fun h => by cases h⟩
/-- An owned row of such values reads as these rows. -/
theorem rows_own {w : World} {base : Nat} {T T2 : TypeId} {B : Nat} {v : Value} {vs : List Value} {ps : List (List (Int × Int))} (h : w.ownsRow base T2 1 v vs.length vs) (hr : Fin T B w vs ps) : RowsAt w v ps := by
  obtain ⟨hl, ⟨rfl, hn⟩ | ⟨g, cap, cur, rfl, hb, hh, h1, h2, h3, h4⟩⟩ := h
  · have : ps = [] := List.eq_nil_of_length_eq_zero (by rw [← hr.1]; exact hn)
    subst this
    exact ⟨none, 0, rfl, Nat.le_refl _, fun _ => rfl, fun i q hq => by simp at hq⟩
  · refine ⟨_, cap, by rw [← hr.1], by rw [← hr.1]; exact h1, (fun h => by cases h), fun i q hq => ?_⟩
    have hi : i < vs.length := by rw [hr.1]; exact (List.getElem?_eq_some_iff.1 hq).1
    have hx := List.getElem?_eq_getElem hi
    obtain ⟨_, hq1, hq2, _⟩ := hr.2 i _ q hx hq
    refine ⟨g, 0, vs[i], rfl, (Array.getElem?_eq_some_iff.1 hh).1, ?_, own_pts hq2 rfl (by omega)⟩
    have hx' : cur[i]? = some vs[i] := by
      have : (List.take (vs.length * 1) cur.toList)[i]? = vs[i]? := by rw [h4]
      rw [List.getElem?_take_of_lt (by omega), hx] at this
      rw [← Array.getElem?_toList]; exact this
    simp only [World.cell?, hh, Nat.zero_add]
    exact hx'
theorem rowOne (w : World) (b : Nat) (x : Value) (T : TypeId) (hb : b = w.heap.size) (hx : x.oneCell' = true) : RowAt 1 (w.alloc (.cells #[x] T)) (.slice (some ⟨b, 0, none⟩) 1 1) 1 [x] := by
  subst hb
  exact ⟨rfl, by simpa using hx, .inr ⟨w.heap.size, 0, 1, rfl, by simp, fun j y hj => by
    cases j with
    | zero => cases hj; unfold World.cell?; rw [heap_new w _ _ rfl]; rfl
    | succ j => simp at hj⟩⟩
theorem fold_take (ps : List (List (Int × Int))) (k : Nat) (h : k < ps.length) : (ps.take (k + 1)).foldl joinS ([], []) = joinS ((ps.take k).foldl joinS ([], [])) ps[k] := by
  rw [List.take_succ_eq_append_getElem h, List.foldl_append]
  rfl
theorem last_getD {l : List (Int × Int)} {j : Nat} (h : l.length = j + 1) : l.getLast? = some (l.getD j (0, 0)) := by
  rw [List.getLast?_eq_getElem?, List.getD_eq_getElem?_getD, h, Nat.add_sub_cancel, List.getElem?_eq_getElem (by omega)]
  rfl
theorem head_getD {l : List (Int × Int)} (h : 0 < l.length) : l.head? = some (l.getD 0 (0, 0)) := by
  cases l with
  | nil => simp at h
  | cons a l => rfl
/-- One row more, by the points between. -/
theorem joinS_new {s : List Row2 × Row2} {q : Row2} (hs : s.2 = []) (hq : q ≠ []) : joinS s q = (s.1, q) := by
  unfold joinS; rw [if_neg hq, if_neg (by simp [hs]), if_pos hs]
theorem joinS_on {s : List Row2 × Row2} {q : Row2} {j : Nat} (hs : s.2.length = j + 1) (hq : 0 < q.length) (e : s.2.getD j (0, 0) = q.getD 0 (0, 0)) : joinS s q = (s.1, s.2 ++ q.tail) := by
  unfold joinS
  rw [if_neg (by rintro rfl; simp at hq), if_pos ⟨by intro h; rw [h] at hs; simp at hs, by rw [last_getD hs, head_getD hq, e]⟩]
theorem joinS_off {s : List Row2 × Row2} {q : Row2} {j : Nat} (hs : s.2.length = j + 1) (hq : 0 < q.length) (e : s.2.getD j (0, 0) ≠ q.getD 0 (0, 0)) : joinS s q = (s.1 ++ [s.2], q) := by
  have hs0 : s.2 ≠ [] := by intro h; rw [h] at hs; simp at hs
  unfold joinS
  rw [if_neg (by rintro rfl; simp at hq), if_neg, if_neg hs0]
  rintro ⟨_, h⟩
  rw [last_getD hs, head_getD hq] at h
  exact e (Option.some.inj h)
/-- All but the first of a row. -/
theorem tail_row {w : World} {b off m c : Nat} {q : List (Int × Int)} (h : PtsAt w (.slice (some ⟨b, off, none⟩) (m + 1) c) q) (hm : q.length = m + 1) :
    RowAt 2 w (.slice (if c = 1 then some ⟨b, off, none⟩ else some ⟨b, off + 2, none⟩) m (c - 1)) m (flat q.tail) := by
  by_cases hc : c = 1
  · obtain ⟨a', c', hv, h1, h2⟩ := h.shape
    have hcc : c = c' := by injection hv
    have : m = 0 := by omega
    subst this
    have hq : q.tail = [] := List.eq_nil_of_length_eq_zero (by rw [List.length_tail]; omega)
    rw [hq, if_pos hc]
    exact ⟨rfl, fun x hx => by simp [flat] at hx, .inl ⟨rfl, _, _, rfl, fun h => by cases h⟩⟩
  · rw [if_neg hc]
    have := (h.drop (j := 1) (by omega)).row
    rw [List.length_drop, hm, List.drop_one] at this
    exact this
end Go.Proofs.Ytlkihbehiojimaa
