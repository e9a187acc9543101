/-
  Rows of whole numbers (for seats without points); what an append leaves alone.
-/
import Derived.Test.YtcmgkmkpkklloaaDoorRows
import Derived.Test.YtcmgkmkpkklloaaDoorTab
import Derived.ProofKit
import Derived.WalkKit
import Derived.LoopTactic
import Derived.Outline
import Derived.Below
import Derived.BigQuiet
import Derived.Lib.Hide
import Derived.Lib.SmallJoins
import Derived.Test.YtcmgkmkpkklloaaDoorRB
import Derived.WideShapes
namespace Go.Proofs.YtcmgkmkpkklloaaDoor
open Go.RowKit Go.Tab Go.WideShapes

abbrev iv (x : Int) : Value := .int .i64 x
/-- A row of whole numbers: a slice that reads so. -/
def IntsAt (w : World) (v : Value) (l : List Int) : Prop :=
  l.length ≤ 1000000000 ∧ (((∃ a cap, v = .slice a 0 cap ∧ (a = none → cap = 0)) ∧ l = []) ∨ ∃ b off cap, v = .slice (some ⟨b, off, none⟩) l.length cap ∧ b < w.heap.size ∧ l.length ≤ cap ∧
    ∀ i, i < l.length → w.cell? ⟨b, off + i, none⟩ = some (.int .i64 (l.getD i 0)))
theorem IntsAt.grows {w w' : World} {v : Value} {l : List Int} (h : IntsAt w v l) (hg : Grows w w') : IntsAt w' v l := by
  obtain ⟨hl, h | ⟨b, off, cap, hv, hb, hcp, hc⟩⟩ := h
  · exact ⟨hl, .inl h⟩
  · refine ⟨hl, .inr ⟨b, off, cap, hv, Nat.lt_of_lt_of_le hb hg.size, hcp, fun i hi => ?_⟩⟩
    rw [Below.cell hg (p := ⟨b, off + i, none⟩) hb]
    exact hc i hi
theorem IntsAt.at_ {w : World} {a : Option Addr} {n cap i : Nat} {l : List Int} (h : IntsAt w (.slice a n cap) l) (hi : i < l.length) :
    ∃ b off, a = some ⟨b, off, none⟩ ∧ b < w.heap.size ∧ w.cell? ⟨b, off + i, none⟩ = some (.int .i64 (l.getD i 0)) := by
  obtain ⟨_, ⟨_, rfl⟩ | ⟨b, off, cap', hv, hb, _, hc⟩⟩ := h
  · cases hi
  · cases hv; exact ⟨b, off, rfl, hb, hc i hi⟩
theorem IntsAt.shape {w : World} {v : Value} {l : List Int} (h : IntsAt w v l) : ∃ a cap, v = .slice a l.length cap ∧ l.length ≤ cap ∧ (a = none → cap = 0) := by
  obtain ⟨_, ⟨⟨_, _, h, hz⟩, rfl⟩ | ⟨b, off, cap, hv, _, hc, _⟩⟩ := h
  · exact ⟨_, _, h, Nat.zero_le _, hz⟩
  · exact ⟨_, _, hv, hc, fun h => by cases h⟩
theorem IntsAt.take {w : World} {a : Option Addr} {n cap j : Nat} {l : List Int} (h : IntsAt w (.slice a n cap) l) (hj : j ≤ n) : IntsAt w (.slice a j cap) (l.take j) := by
  obtain ⟨hl, ⟨⟨_, _, h, hz⟩, rfl⟩ | ⟨b', off', cap', hv, hb, hc, hi⟩⟩ := h
  · cases h
    have : j = 0 := by omega
    subst this
    exact ⟨Nat.zero_le _, .inl ⟨⟨_, _, rfl, hz⟩, rfl⟩⟩
  · cases hv
    have hlen : (l.take j).length = j := by rw [List.length_take]; omega
    refine ⟨by omega, .inr ⟨_, _, _, by rw [hlen], hb, by omega, fun i hi' => ?_⟩⟩
    rw [hi i (by omega)]
    rw [List.getD_eq_getElem?_getD, List.getD_eq_getElem?_getD, List.getElem?_take_of_lt (by omega)]
theorem IntsAt.drop {w : World} {b off n cap j : Nat} {l : List Int} (h : IntsAt w (.slice (some ⟨b, off, none⟩) n cap) l) (hj : j ≤ n) : IntsAt w (.slice (some ⟨b, off + j, none⟩) (n - j) (cap - j)) (l.drop j) := by
  obtain ⟨hl, ⟨⟨_, _, h, hz⟩, rfl⟩ | ⟨b', off', cap', hv, hb, hc, hi⟩⟩ := h
  · cases h
    have : j = 0 := by omega
    subst this
    exact ⟨Nat.zero_le _, .inl ⟨⟨_, _, rfl, fun h => by cases h⟩, rfl⟩⟩
  · cases hv
    have hlen : (l.drop j).length = l.length - j := List.length_drop ..
    refine ⟨by omega, .inr ⟨_, _, _, by rw [hlen], hb, by omega, fun i hi' => ?_⟩⟩
    rw [Nat.add_assoc, hi (j + i) (by omega)]
    rw [List.getD_eq_getElem?_getD, List.getD_eq_getElem?_getD, List.getElem?_drop]
theorem ints_nil (w : World) : IntsAt w (.slice none 0 0) [] := ⟨Nat.zero_le _, .inl ⟨⟨_, _, rfl, fun _ => rfl⟩, rfl⟩⟩
theorem own_ints {w : World} {base : Nat} {E : TypeId} {v : Value} {l : List Int} {n : Nat} (h : w.ownsRow base E 1 v n (l.map iv)) (hn : n = l.length) (hl : l.length ≤ 1000000000) : IntsAt w v l := by
  subst hn
  obtain ⟨_, ⟨h1, h2⟩ | ⟨g, cap, cur, hv, hg, hh, hc, hm, hs, ht⟩⟩ := h
  · exact ⟨hl, .inl ⟨⟨_, _, h1, fun _ => rfl⟩, by simpa using h2⟩⟩
  · refine ⟨hl, .inr ⟨g, 0, cap, hv, (Array.getElem?_eq_some_iff.1 hh).1, hc, fun i hi => ?_⟩⟩
    simp only [World.cell?, hh, Nat.zero_add]
    show (if false = true then none else cur[i]?) = _
    have h1 : (cur.toList.take (l.length * 1))[i]? = some (iv (l.getD i 0)) := by
      rw [ht, List.getElem?_map, List.getElem?_eq_getElem hi, List.getD_eq_getElem?_getD, List.getElem?_eq_getElem hi]; rfl
    rw [List.getElem?_take_of_lt (by omega)] at h1
    simpa using h1
theorem ints_block {w : World} {b : Nat} {E : TypeId} {cs : Array Value} {l : List Int} (h : w.heap[b]? = some (.cells cs E (0, 0))) (hc : cs.toList = l.map iv) (hl : l.length ≤ 1000000000) :
    IntsAt w (.slice (some ⟨b, 0, none⟩) l.length l.length) l := by
  refine ⟨hl, .inr ⟨b, 0, l.length, rfl, (Array.getElem?_eq_some_iff.1 h).1, Nat.le_refl _, fun i hi => ?_⟩⟩
  simp only [World.cell?, h, Nat.zero_add]
  show (if false = true then none else cs[i]?) = _
  have : cs.toList[i]? = some (.int .i64 (l.getD i 0)) := by rw [hc, List.getElem?_map, List.getElem?_eq_getElem hi]; simp [List.getD_eq_getElem?_getD, hi]
  simpa using this
theorem ownsRow_grows {w w' : World} {base : Nat} {T : TypeId} {s : Nat} {v : Value} {n : Nat} {xs : List Value} (h : w.ownsRow base T s v n xs) (hg : Grows w w') : w'.ownsRow base T s v n xs := by
  obtain ⟨h0, h1 | ⟨g, cap, cur, hv, hb, hh, rest⟩⟩ := h
  · exact ⟨h0, .inl h1⟩
  · exact ⟨h0, .inr ⟨g, cap, cur, hv, hb, hg.block hh, rest⟩⟩
theorem grown_block {w w' : World} {T1 T2 : TypeId} {base s n b : Nat} {v : Value} {xs : List Value} {cs : Array Value} (ho : w.ownsRow base T1 s v n xs) (hb : w.heap[b]? = some (.cells cs T2 (0, 0))) (hT : T1 ≠ T2) (hg : w.grownBy w' v.ownBlock) : w'.heap[b]? = some (.cells cs T2 (0, 0)) := by
  rw [hg.block b (Array.getElem?_eq_some_iff.1 hb).1 ?_]
  · exact hb
  · intro he
    obtain ⟨_, ⟨rfl, _⟩ | ⟨g1, cap1, cur1, rfl, hb1, hh1, _⟩⟩ := ho
    · cases he
    · cases he
      rw [hh1] at hb
      injection hb with hb
      injection hb with _ hb
      exact hT hb
theorem grown_all {W w w' : World} {T : TypeId} {s n : Nat} {v : Value} {xs : List Value} (ho : w.ownsRow W.heap.size T s v n xs) (hW : Grows W w) (hg : w.grownBy w' v.ownBlock) : Grows W w' :=
  Below.grown hW hg hW.size (fun k hk => (ho.lt k hk).1)
theorem cells4q {w : World} {b : Nat} {x y z u : Value} {T : TypeId} (h : w.heap[b]? = some (.cells #[x, y, z, u] T (0, 0))) :
    w.cell? ⟨b, 0, none⟩ = some x ∧ w.cell? ⟨b, 1, none⟩ = some y ∧ w.cell? ⟨b, 2, none⟩ = some z ∧ w.cell? ⟨b, 3, none⟩ = some u := by
  refine ⟨?_, ?_, ?_, ?_⟩ <;> simp [World.cell?, h]
theorem row_four {w : World} {b : Nat} {x y z u : Value} {T : TypeId} (h : w.heap[b]? = some (.cells #[x, y, z, u] T (0, 0))) (h1 : x.oneCell' = true) (h2 : y.oneCell' = true) (h3 : z.oneCell' = true) (h4 : u.oneCell' = true) : RowAt 4 w (.slice (some ⟨b, 0, none⟩) 1 1) 1 [x, y, z, u] := by
  refine ⟨rfl, ?_, .inr ⟨b, 0, 1, rfl, (Array.getElem?_eq_some_iff.1 h).1, fun j v hj => ?_⟩⟩
  · intro v hv
    simp only [List.mem_cons, List.not_mem_nil, or_false] at hv
    rcases hv with rfl | rfl | rfl | rfl <;> assumption
  · obtain ⟨c0, c1, c2, c3⟩ := cells4q h
    match j, hj with
    | 0, hj => cases hj; exact c0
    | 1, hj => cases hj; exact c1
    | 2, hj => cases hj; exact c2
    | 3, hj => cases hj; exact c3
    | j + 4, hj => simp at hj
end Go.Proofs.YtcmgkmkpkklloaaDoor
