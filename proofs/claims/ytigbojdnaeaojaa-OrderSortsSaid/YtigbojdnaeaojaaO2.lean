/-
  Layer 4: rows of whole numbers and of points; small functions.
-/
import Derived.Test.YtigbojdnaeaojaaRows
import Derived.Test.YtigbojdnaeaojaaTab
import Derived.Test.YtigbojdnaeaojaaTQ
import Derived.Test.YtigbojdnaeaojaaO1
import Derived.ProofKit
import Derived.WalkKit
import Derived.LoopTactic
import Derived.Outline
import Derived.Below
import Derived.BigQuiet
import Derived.WideShapes
import Derived.Lib.Hide
import Derived.Lib.SmallJoins
import Derived.Laws.AppendOwnNone
namespace Go.Proofs.Ytigbojdnaeaojaa
open Go.RowKit Go.Tab Go.WideShapes

abbrev iv (x : Int) : Value := .int .i64 x
abbrev pt (x y : Int) : Value := .agg #[.int .i64 x, .int .i64 y]
theorem ret_bool {a b : Bool} (h : a = b) : Ending.returned (.bool a) = .returned (.bool b) := by rw [h]
theorem ret_int {k : IntKind} {a b : Int} (h : a = b) : Ending.returned (.int k a) = .returned (.int k b) := by rw [h]

/-- A row of whole numbers: a slice that reads so. -/
def IntsAt (w : World) (v : Value) (l : List Int) : Prop :=
  l.length ≤ 1000000000 ∧ (((∃ a cap, v = .slice a 0 cap ∧ (a = none → cap = 0)) ∧ l = []) ∨ ∃ b off cap, v = .slice (some ⟨b, off, none⟩) l.length cap ∧ b < w.heap.size ∧ l.length ≤ cap ∧
    ∀ i, i < l.length → w.cell? ⟨b, off + i, none⟩ = some (.int .i64 (l.getD i 0)))
theorem IntsAt.grows {w w' : World} {v : Value} {l : List Int} (h : IntsAt w v l) (hg : Grows w w') : IntsAt w' v l := by
  obtain ⟨hl, h | ⟨b, off, cap, hv, hb, hcp, hc⟩⟩ := h
  · exact ⟨hl, .inl h⟩
  · refine ⟨hl, .inr ⟨b, off, cap, hv, Nat.lt_of_lt_of_le hb hg.size, hcp, fun i hi => ?_⟩⟩
    rw [Below.cell hg (p := ⟨b, off + i, none⟩) hb]
    exact hc i hi
theorem IntsAt.at_ {w : World} {a : Option Addr} {n cap i : Nat} {l : List Int} (h : IntsAt w (.slice a n cap) l) (hi : i < l.length) :
    ∃ b off, a = some ⟨b, off, none⟩ ∧ b < w.heap.size ∧ w.cell? ⟨b, off + i, none⟩ = some (.int .i64 (l.getD i 0)) := by
  obtain ⟨_, ⟨_, rfl⟩ | ⟨b, off, cap', hv, hb, _, hc⟩⟩ := h
  · cases hi
  · cases hv; exact ⟨b, off, rfl, hb, hc i hi⟩
theorem IntsAt.shape {w : World} {v : Value} {l : List Int} (h : IntsAt w v l) : ∃ a cap, v = .slice a l.length cap ∧ l.length ≤ cap ∧ (a = none → cap = 0) := by
  obtain ⟨_, ⟨⟨_, _, h, hz⟩, rfl⟩ | ⟨b, off, cap, hv, _, hc, _⟩⟩ := h
  · exact ⟨_, _, h, Nat.zero_le _, hz⟩
  · exact ⟨_, _, hv, hc, fun h => by cases h⟩
theorem IntsAt.take {w : World} {a : Option Addr} {n cap j : Nat} {l : List Int} (h : IntsAt w (.slice a n cap) l) (hj : j ≤ n) : IntsAt w (.slice a j cap) (l.take j) := by
  obtain ⟨hl, ⟨⟨_, _, h, hz⟩, rfl⟩ | ⟨b', off', cap', hv, hb, hc, hi⟩⟩ := h
  · cases h
    have : j = 0 := by omega
    subst this
    exact ⟨Nat.zero_le _, .inl ⟨⟨_, _, rfl, hz⟩, rfl⟩⟩
  · cases hv
    have hlen : (l.take j).length = j := by rw [List.length_take]; omega
    refine ⟨by omega, .inr ⟨_, _, _, by rw [hlen], hb, by omega, fun i hi' => ?_⟩⟩
    rw [hi i (by omega)]
    rw [List.getD_eq_getElem?_getD, List.getD_eq_getElem?_getD, List.getElem?_take_of_lt (by omega)]
theorem IntsAt.drop {w : World} {b off n cap j : Nat} {l : List Int} (h : IntsAt w (.slice (some ⟨b, off, none⟩) n cap) l) (hj : j ≤ n) : IntsAt w (.slice (some ⟨b, off + j, none⟩) (n - j) (cap - j)) (l.drop j) := by
  obtain ⟨hl, ⟨⟨_, _, h, hz⟩, rfl⟩ | ⟨b', off', cap', hv, hb, hc, hi⟩⟩ := h
  · cases h
    have : j = 0 := by omega
    subst this
    exact ⟨Nat.zero_le _, .inl ⟨⟨_, _, rfl, fun h => by cases h⟩, rfl⟩⟩
  · cases hv
    have hlen : (l.drop j).length = l.length - j := List.length_drop ..
    refine ⟨by omega, .inr ⟨_, _, _, by rw [hlen], hb, by omega, fun i hi' => ?_⟩⟩
    rw [Nat.add_assoc, hi (j + i) (by omega)]
    rw [List.getD_eq_getElem?_getD, List.getD_eq_getElem?_getD, List.getElem?_drop]
theorem ints_nil (w : World) : IntsAt w (.slice none 0 0) [] := ⟨Nat.zero_le _, .inl ⟨⟨_, _, rfl, fun _ => rfl⟩, rfl⟩⟩
theorem own_ints {w : World} {base : Nat} {E : TypeId} {v : Value} {l : List Int} {n : Nat} (h : w.ownsRow base E 1 v n (l.map iv)) (hn : n = l.length) (hl : l.length ≤ 1000000000) : IntsAt w v l := by
  subst hn
  obtain ⟨_, ⟨h1, h2⟩ | ⟨g, cap, cur, hv, hg, hh, hc, hm, hs, ht⟩⟩ := h
  · exact ⟨hl, .inl ⟨⟨_, _, h1, fun _ => rfl⟩, by simpa using h2⟩⟩
  · refine ⟨hl, .inr ⟨g, 0, cap, hv, (Array.getElem?_eq_some_iff.1 hh).1, hc, fun i hi => ?_⟩⟩
    simp only [World.cell?, hh, Nat.zero_add]
    show (if false = true then none else cur[i]?) = _
    have h1 : (cur.toList.take (l.length * 1))[i]? = some (iv (l.getD i 0)) := by
      rw [ht, List.getElem?_map, List.getElem?_eq_getElem hi, List.getD_eq_getElem?_getD, List.getElem?_eq_getElem hi]; rfl
    rw [List.getElem?_take_of_lt (by omega)] at h1
    simpa using h1
theorem ints_block {w : World} {b : Nat} {E : TypeId} {cs : Array Value} {l : List Int} (h : w.heap[b]? = some (.cells cs E (0, 0))) (hc : cs.toList = l.map iv) (hl : l.length ≤ 1000000000) :
    IntsAt w (.slice (some ⟨b, 0, none⟩) l.length l.length) l := by
  refine ⟨hl, .inr ⟨b, 0, l.length, rfl, (Array.getElem?_eq_some_iff.1 h).1, Nat.le_refl _, fun i hi => ?_⟩⟩
  simp only [World.cell?, h, Nat.zero_add]
  show (if false = true then none else cs[i]?) = _
  have : cs.toList[i]? = some (.int .i64 (l.getD i 0)) := by rw [hc, List.getElem?_map, List.getElem?_eq_getElem hi]; simp [List.getD_eq_getElem?_getD, hi]
  simpa using this
theorem ownsRow_grows {w w' : World} {base : Nat} {T : TypeId} {s : Nat} {v : Value} {n : Nat} {xs : List Value} (h : w.ownsRow base T s v n xs) (hg : Grows w w') : w'.ownsRow base T s v n xs := by
  obtain ⟨h0, h1 | ⟨g, cap, cur, hv, hb, hh, rest⟩⟩ := h
  · exact ⟨h0, .inl h1⟩
  · exact ⟨h0, .inr ⟨g, cap, cur, hv, hb, hg.block hh, rest⟩⟩
theorem ownsRow_base {w : World} {base base' : Nat} {T : TypeId} {s : Nat} {v : Value} {n : Nat} {xs : List Value} (h : w.ownsRow base T s v n xs) (hb' : base' ≤ base) : w.ownsRow base' T s v n xs := by
  obtain ⟨h0, h1 | ⟨g, cap, cur, hv, hb, rest⟩⟩ := h
  · exact ⟨h0, .inl h1⟩
  · exact ⟨h0, .inr ⟨g, cap, cur, hv, Nat.le_trans hb' hb, rest⟩⟩
theorem own_empty {w : World} {T : TypeId} {s : Nat} (hs : 0 < s) : (w.alloc (.cells #[] T)).ownsRow w.heap.size T s (.slice (some ⟨w.heap.size, 0, none⟩) 0 0) 0 [] :=
  ⟨by simp, .inr ⟨w.heap.size, 0, #[], rfl, Nat.le_refl _, heap_new _ _ _ rfl, Nat.le_refl _, by unfold maxLen; omega, by simp, by simp⟩⟩

/-- append of a row of whole numbers to a row of the call's own. -/
theorem append_ints {P : Program} {w : World} {ops : Array Oper} {rest : List Oper} {o : Oper} {a : Act} {Q : Exit → Act → World → Prop} (hgd : o.guard = none) (s x : Operand) (t : TypeId)
    (ho : o.op = .call { callee := .builtin .append, args := #[s, x], argTypes := #[t, t] })
    (base : Nat) (e : TypeId) (i : TypeInfo) (z : Value) (bytes : Nat) (ht : P.underlying t = some (.slice e)) (hi : P.info? e = some i) (hz : i.zero = some z)
    (hsize : i.size = 1) (hby : i.bytes = bytes) (hzs : z.cells.size = 1)
    (v : Value) (n : Nat) (xs : List Value) (hs : a.eval s = v) (hown : w.ownsRow base e 1 v n xs)
    (l : List Int) (u : Value) (hx : a.eval x = u) (hu : IntsAt w u l)
    (h63 : n + l.length ≤ maxLen) (hbytes : (n + l.length) * bytes ≤ 140737488355328) (hbase : base ≤ w.heap.size)
    (h : ∀ v' w', w'.ownsRow base e 1 v' (n + l.length) (xs ++ l.map iv) → (∀ W : World, Grows W w → W.heap.size ≤ base → Grows W w') → wpList P ops Q rest (a.put o.dst v') w') : wpList P ops Q (o :: rest) a w := by
  have hgr : ∀ kk, v.ownBlock = some kk → base ≤ kk := fun kk hkk => by
    obtain ⟨_, ⟨rfl, _⟩ | ⟨g', cap', cur, rfl, hb', _⟩⟩ := hown
    · cases hkk
    · cases hkk; exact hb'
  have some_case : ∀ (ad : Addr) (c : Nat), u = .slice (some ad) l.length c → (∀ j u, (l.map iv)[j]? = some u → w.cell? (ad.add j) = some u) → wpList P ops Q (o :: rest) a w := fun ad c hux hcells =>
    wpList_append_own w hgd s x t ho base e i z 1 bytes ht hi hz hsize hby hzs (by decide) v n xs hs hown ad l.length c _ (hx.trans hux) (by simp) hcells
      (fun u hu => by obtain ⟨x, _, rfl⟩ := List.mem_map.1 hu; rfl) h63 hbytes hbase
      (fun v' w' hv' hw' _ => h v' w' hv' fun W hW hWs => Below.grown hW hw' (by have := hW.size; omega) fun kk hkk => Nat.le_trans hWs (hgr kk hkk))
  obtain ⟨hl, ⟨⟨ad, c, hux, hac⟩, rfl⟩ | ⟨b, off, c, hux, hb, hc, hcl⟩⟩ := hu
  · cases ad with
    | none =>
      rw [hac rfl] at hux
      refine wpList_append_own_none hgd s x t ho base e i 1 ht hi v n xs hs hown (hx.trans hux) ?_
      exact h v w (by simpa using hown) fun W hW _ => hW
    | some ad => exact some_case ad c hux (fun j u hj => by simp at hj)
  · refine some_case _ c hux fun j u hj => ?_
    rw [List.getElem?_map] at hj
    cases hlj : l[j]? with
    | none => rw [hlj] at hj; cases hj
    | some y =>
      rw [hlj] at hj
      cases hj
      have hjl : j < l.length := (List.getElem?_eq_some_iff.1 hlj).1
      have := hcl j hjl
      rw [show l.getD j 0 = y by rw [List.getD_eq_getElem?_getD, hlj]; rfl] at this
      rw [add_plain]
      exact this

theorem infoI : (Try.prog.info? 3).map (fun i => (i.zero, i.size, i.bytes)) = some (some (.int .i64 0), 1, 8) := by kernel_rfl

/-- A new row of whole numbers. -/
def RetInts (l : List Int) (w : World) (e : Ending) (w' : World) : Prop :=
  ∃ v, e = .returned v ∧ w'.ownsRow w.heap.size 3 1 v l.length (l.map iv) ∧ Grows w w'

/-! ### Small functions -/
theorem lesser_any (x y : Int) (w : World) : Calls Try.prog 35 #[iv x, iv y] w (Ret (.bool (decide (x < y))) w) := by
  go_enter Try.func35, Try.ntmps35
  go_wp2
  go_ret
  exact ⟨rfl, Grows.refl w⟩

def sgn (x y : Int) : Int := if x < y then -1 else if y < x then 1 else 0
theorem sign_any (x y : Int) (w : World) : Calls Try.prog 26 #[iv x, iv y] w (Ret (iv (sgn x y)) w) := by
  go_enter Try.func26, Try.ntmps26
  unfold sgn
  by_cases h1 : x < y
  · rw [if_pos h1]
    go_wp2
    go_ret
    exact ⟨rfl, Grows.refl w⟩
  · by_cases h2 : y < x
    · rw [if_neg h1, if_pos h2]
      go_wp2
      go_ret
      exact ⟨rfl, Grows.refl w⟩
    · rw [if_neg h1, if_neg h2]
      go_wp2
      go_ret
      exact ⟨rfl, Grows.refl w⟩
theorem rsign_any (x : Int) (w : World) : Calls Try.prog 27 #[iv x] w (Ret (iv (sgn x 0)) w) := by
  go_enter Try.func27, Try.ntmps27
  unfold sgn
  by_cases h1 : x < 0
  · rw [if_pos h1]
    go_wp2
    go_ret
    exact ⟨rfl, Grows.refl w⟩
  · by_cases h2 : 0 < x
    · rw [if_neg h1, if_pos h2]
      go_wp2
      go_ret
      exact ⟨rfl, Grows.refl w⟩
    · rw [if_neg h1, if_neg h2]
      go_wp2
      go_ret
      exact ⟨rfl, Grows.refl w⟩
end Go.Proofs.Ytigbojdnaeaojaa
