/-
  An append to an owned row: what is known of all other blocks.
-/
import Derived.Test.YtcmgkmkpkklloaaDoorRA
namespace Go.Tab
open Go Go.RowKit
section
variable {P : Program} {ops : Array Oper} {o : Oper}

theorem grown_self (w : World) (row : Option Nat) : w.grownBy w row := ⟨rfl, rfl, rfl, Nat.le_refl _, fun _ _ _ => rfl⟩
/-- An owned row of other elements outlives an append to a row. -/
theorem own_other {w w' : World} {T1 T2 : TypeId} {base1 base2 s1 s2 n m : Nat} {v x : Value} {xs ys : List Value} (ho : w.ownsRow base1 T1 s1 v n xs) (hx : w.ownsRow base2 T2 s2 x m ys) (hT : T1 ≠ T2) (hg : w.grownBy w' v.ownBlock) : w'.ownsRow base2 T2 s2 x m ys := by
  obtain ⟨h0, h1 | ⟨g2, cap2, cur2, hv2, hb2, hh2, rest2⟩⟩ := hx
  · exact ⟨h0, .inl h1⟩
  · refine ⟨h0, .inr ⟨g2, cap2, cur2, hv2, hb2, ?_, rest2⟩⟩
    rw [hg.block g2 (Array.getElem?_eq_some_iff.1 hh2).1 ?_]
    · exact hh2
    · intro he
      obtain ⟨_, ⟨rfl, _⟩ | ⟨g1, cap1, cur1, rfl, hb1, hh1, _⟩⟩ := ho
      · cases he
      · cases he
        rw [hh1] at hh2
        injection hh2 with hh2
        injection hh2 with _ hh2
        exact hT hh2
/-- append_row, whose gift is grownBy: every block but the row's own is as it was. -/
theorem append_row2 {w : World} {rest : List Oper} {a : Act} {Q : Exit → Act → World → Prop} (hgd : o.guard = none) (s x : Operand) (t : TypeId)
    (ho : o.op = .call { callee := .builtin .append, args := #[s, x], argTypes := #[t, t] })
    (base : Nat) (e : TypeId) (i : TypeInfo) (z : Value) (size bytes : Nat) (ht : P.underlying t = some (.slice e)) (hi : P.info? e = some i) (hz : i.zero = some z)
    (hsize : i.size = size) (hby : i.bytes = bytes) (hzs : z.cells.size = size) (hsz : 0 < size)
    (v : Value) (n : Nat) (xs : List Value) (hs : a.eval s = v) (hown : w.ownsRow base e size v n xs)
    (m : Nat) (news : List Value) (u : Value) (hx : a.eval x = u) (hu : RowAt size w u m news)
    (h63 : n + m ≤ maxLen) (hbytes : (n + m) * bytes ≤ 140737488355328) (hbase : base ≤ w.heap.size)
    (h : ∀ v' w', w'.ownsRow base e size v' (n + m) (xs ++ news) → w.grownBy w' v.ownBlock → wpList P ops Q rest (a.put o.dst v') w') : wpList P ops Q (o :: rest) a w := by
  obtain ⟨hl, h1, h3⟩ := hu
  have some_case : ∀ (ad : Addr) (c : Nat), u = .slice (some ad) m c → (∀ j u, news[j]? = some u → w.cell? (ad.add j) = some u) → wpList P ops Q (o :: rest) a w := fun ad c hux hcells =>
    wpList_append_own w hgd s x t ho base e i z size bytes ht hi hz hsize hby hzs hsz v n xs hs hown ad m c _ (hx.trans hux) hl hcells h1 h63 hbytes hbase
      (fun v' w' hv' hw' _ => h v' w' hv' hw')
  rcases h3 with ⟨hm, ad, c, hux, hac⟩ | ⟨b, off, c, hux, hb, hcl⟩
  · subst hm
    have hn : news = [] := List.eq_nil_of_length_eq_zero (by simpa using hl)
    subst hn
    cases ad with
    | none =>
      rw [hac rfl] at hux
      refine wpList_append_own_none hgd s x t ho base e i size ht hi v n xs hs hown (hx.trans hux) ?_
      exact h v w (by simpa using hown) (grown_self _ _)
    | some ad => exact some_case ad c hux (fun j u hj => by simp at hj)
  · exact some_case _ c hux fun j u hj => by rw [add_at]; exact hcl j u hj

/-- append of a row of cells to an owned row, as a step of a region that draws its order (go_region_law). -/
theorem step_append_row {w : World} {a : Act} {K : Act → World → Prop} {Q : Exit → Act → World → Prop} {E : Prop} (hgd : o.guard = none) (s x : Operand) (t : TypeId)
    (ho : o.op = .call { callee := .builtin .append, args := #[s, x], argTypes := #[t, t] })
    (base : Nat) (e : TypeId) (i : TypeInfo) (z : Value) (size bytes : Nat) (ht : P.underlying t = some (.slice e)) (hi : P.info? e = some i) (hz : i.zero = some z)
    (hsize : i.size = size) (hby : i.bytes = bytes) (hzs : z.cells.size = size) (hsz : 0 < size)
    (v : Value) (n : Nat) (xs : List Value) (hs : a.eval s = v) (hown : w.ownsRow base e size v n xs)
    (m : Nat) (news : List Value) (u : Value) (hx : a.eval x = u) (hu : RowAt size w u m news)
    (h63 : n + m ≤ maxLen) (hbytes : (n + m) * bytes ≤ 140737488355328) (hbase : base ≤ w.heap.size)
    (h : ∀ v' w', w'.ownsRow base e size v' (n + m) (xs ++ news) → w.grownBy w' v.ownBlock → K (a.put o.dst v') w') : if Region.wanted o (yielded ops a.tmps) = true then Oper.wp P o a w K Q else E := by
  have hw : Region.wanted o (yielded ops a.tmps) = true := by simp [Region.wanted, hgd]
  rw [if_pos hw]
  obtain ⟨hl, h1, h3⟩ := hu
  have some_case : ∀ (ad : Addr) (c : Nat), u = .slice (some ad) m c → (∀ j u, news[j]? = some u → w.cell? (ad.add j) = some u) → Oper.wp P o a w K Q := fun ad c hux hcells =>
    wp_append_own w s x t ho base e i z size bytes ht hi hz hsize hby hzs hsz v n xs hs hown ad m c _ (hx.trans hux) hl hcells h1 h63 hbytes hbase
      (fun v' w' hv' hw' _ => h v' w' hv' hw')
  rcases h3 with ⟨hm, ad, c, hux, hac⟩ | ⟨b, off, c, hux, hb, hcl⟩
  · subst hm
    have hn : news = [] := List.eq_nil_of_length_eq_zero (by simpa using hl)
    subst hn
    cases ad with
    | none =>
      rw [hac rfl] at hux
      obtain ⟨av, cv, hv, hnc⟩ : ∃ av cv, v = .slice av n cv ∧ n ≤ cv := by
        obtain ⟨_, ⟨rfl, rfl⟩ | ⟨g, cap, cur, rfl, _, _, hc, _⟩⟩ := hown
        · exact ⟨none, 0, rfl, Nat.le_refl _⟩
        · exact ⟨_, cap, rfl, hc⟩
      have hrun := run_append_of_none (P := P) w t o.type e i ht hi v av n cv hv hnc
      unfold Oper.wp
      have hs' : a.eval s = .slice av n cv := hs.trans hv
      have hx' : a.eval x = .slice none 0 0 := hx.trans hux
      rw [hv] at hrun
      simp [execOp, ho, resolve, invoke, builtin, hs', hx', hrun, Result.andThen]
      have := h v w (by simpa using hown) (grown_self _ _)
      rw [hv] at this
      exact this
    | some ad => exact some_case ad c hux (fun j u hj => by simp at hj)
  · exact some_case _ c hux fun j u hj => by rw [add_at]; exact hcl j u hj
end
end Go.Tab
