/-
  Rows of cells that are appended: to a row of the call's own (at a plain list), and to a new empty slice (a step of a region's table).
-/
import Derived.Test.YtcmgkmkpkklloaaDoorTab
import Derived.Laws.AppendOwn
import Derived.Laws.OwnMore
import Derived.Laws.AppendOwnNone
namespace Go.Tab
open Go Go.RowKit

/-- A slice of m elements of s cells each, that reads as these cells. -/
def RowAt (s : Nat) (w : World) (u : Value) (m : Nat) (news : List Value) : Prop :=
  news.length = m * s ∧ (∀ x ∈ news, x.oneCell' = true) ∧ ((m = 0 ∧ ∃ a c, u = .slice a 0 c ∧ (a = none → c = 0)) ∨
    ∃ b off c, u = .slice (some ⟨b, off, none⟩) m c ∧ b < w.heap.size ∧ ∀ j x, news[j]? = some x → w.cell? ⟨b, off + j, none⟩ = some x)
theorem RowAt.grows {s : Nat} {w w' : World} {u : Value} {m : Nat} {news : List Value} (h : RowAt s w u m news) (hg : Grows w w') : RowAt s w' u m news := by
  obtain ⟨h1, h2, h3 | ⟨b, off, c, hu, hb, hc⟩⟩ := h
  · exact ⟨h1, h2, .inl h3⟩
  · exact ⟨h1, h2, .inr ⟨b, off, c, hu, Nat.lt_of_lt_of_le hb hg.size, fun j x hx => by rw [Below.cell hg hb]; exact hc j x hx⟩⟩

theorem own_base {w : World} {base base' : Nat} {T : TypeId} {s : Nat} {v : Value} {n : Nat} {xs : List Value} (h : w.ownsRow base T s v n xs) (hb' : base' ≤ base) : w.ownsRow base' T s v n xs := by
  obtain ⟨h0, h1 | ⟨g, cap, cur, hv, hb, rest⟩⟩ := h
  · exact ⟨h0, .inl h1⟩
  · exact ⟨h0, .inr ⟨g, cap, cur, hv, Nat.le_trans hb' hb, rest⟩⟩
theorem add_at (b off j : Nat) : (⟨b, off, none⟩ : Addr).add j = ⟨b, off + j, none⟩ := by unfold Addr.add; split <;> simp_all

section
variable {P : Program} (w : World)

theorem run_append_of_none (t ty e : TypeId) (i : TypeInfo) (ht : P.underlying t = some (.slice e)) (hi : P.info? e = some i) (v : Value) (a : Option Addr) (n cap : Nat) (hv : v = .slice a n cap) (hn : n ≤ cap) :
    (Builtin.append_ #[t, t] ty #[v, .slice none 0 0]).run P w = .ok (.slice a n cap) w := by
  subst hv
  cases a <;> simp [Builtin.append_, run_underlying ht, sizeOf, typeInfo, hi, Builtin.lenOf, hn, Builtin.firstCells, storeCells]

/-- append to a new slice that is empty. -/
theorem run_append_zero (base : Nat) (t ty e : TypeId) (i : TypeInfo) (z : Value) (size bytes : Nat) (ht : P.underlying t = some (.slice e)) (hi : P.info? e = some i) (hz : i.zero = some z)
    (hsize : i.size = size) (hby : i.bytes = bytes) (hzs : z.cells.size = size) (hsz : 0 < size)
    (b : Nat) (hb : base ≤ b) (hg : w.heap[b]? = some (.cells #[] e (0, 0))) (u : Value) (m : Nat) (news : List Value) (hu : RowAt size w u m news)
    (h63 : m ≤ maxLen) (hbytes : m * bytes ≤ 140737488355328) (hbase : base ≤ w.heap.size) :
    ∃ v' w', (Builtin.append_ #[t, t] ty #[.slice (some ⟨b, 0, none⟩) 0 0, u]).run P w = .ok v' w' ∧ w'.ownsRow base e size v' m news ∧ Grows w w' := by
  have own0 : w.ownsRow base e size (.slice (some ⟨b, 0, none⟩) 0 0) 0 [] := ⟨by simp, .inr ⟨b, 0, #[], rfl, hb, hg, Nat.le_refl _, by unfold maxLen; omega, by simp, by simp⟩⟩
  obtain ⟨hl, h1, h3⟩ := hu
  by_cases hm : m = 0
  · subst hm
    have hn : news = [] := List.eq_nil_of_length_eq_zero (by simpa using hl)
    subst hn
    have key : ∀ a c, u = .slice a 0 c → (a = none → c = 0) → ∃ v' w', (Builtin.append_ #[t, t] ty #[.slice (some ⟨b, 0, none⟩) 0 0, u]).run P w = .ok v' w' ∧ w'.ownsRow base e size v' 0 [] ∧ Grows w w' := by
      intro a c hu hac
      subst hu
      cases a with
      | none =>
        rw [hac rfl]
        exact ⟨_, _, run_append_of_none w t ty e i ht hi _ _ 0 0 rfl (Nat.le_refl _), own0, Grows.refl _⟩
      | some a =>
        have hr := run_append_room (P := P) w t ty e i ht hi b 0 0 #[] hg a 0 c [] (by simp) (by simp) (by simp) (Nat.le_refl _) (by simp)
        refine ⟨_, _, hr, ⟨by simp, .inr ⟨b, 0, _, rfl, hb, setRow_heap w b #[] _ e _ hg, Nat.le_refl _, by unfold maxLen; omega, by simp, by simp⟩⟩, ⟨rfl, rfl, rfl, by simp, fun k hk => ?_⟩⟩
        by_cases hkb : k = b
        · subst hkb
          rw [setRow_heap w k #[] _ e _ hg, hg]
          simp
        · exact setRow_other w b k _ hkb
    rcases h3 with ⟨_, a, c, hu, hac⟩ | ⟨b', off, c, hu, _, _⟩
    · exact key a c hu hac
    · exact key _ c hu (fun h => by cases h)
  · rcases h3 with ⟨h0, _⟩ | ⟨b', off, c, rfl, hb', hc⟩
    · exact absurd h0 hm
    · subst hsize
      subst hby
      have hnews : ∀ j x, news[j]? = some x → w.cell? ((⟨b', off, none⟩ : Addr).add j) = some x := fun j x hx => by rw [add_at]; exact hc j x hx
      have hr := run_append_grow (P := P) w t ty e i z ht hi hz ⟨b, 0, none⟩ 0 0 [] (by simp) (fun j u h => by simp at h) ⟨b', off, none⟩ m c news hl hnews (by omega) (by simp only [maxLen] at h63; omega) (growslice_fits (by omega) (by simpa using hbytes))
      refine ⟨_, _, hr, ?_, ⟨rfl, rfl, rfl, by simp, fun k hk => heap_alloc_old w.drew _ k hk⟩⟩
      have hge := grownCap_ge w (0 + m) 0 e
      have hcm : grownCap w (0 + m) 0 e ≤ maxLen := grownCap_le_maxLen w (0 + m) 0 e (by omega)
      refine ⟨hl, .inr ⟨w.heap.size, _, _, by rw [Nat.zero_add], hbase, heap_alloc_new w.drew _, by omega, hcm, ?_, ?_⟩⟩
      · simp only [Array.size_append, List.size_toArray, size_zeroCells, hzs, hl, List.length_nil, Nat.zero_add, ← Nat.add_mul]
        rw [Nat.zero_add] at hge
        congr 1
        omega
      · simp only [Array.toList_append, List.nil_append, List.append_assoc]
        rw [← hl]
        exact List.take_left
end

section
variable {P : Program} {ops : Array Oper} {w0 : World} {a0 : Act} {K : List Ent → Prop} {E : List Ent} {o : Oper} {rest : List Oper}

/-- A new slice without elements. -/
def Emp (w0 : World) (e : TypeId) (v : Value) (w : World) : Prop := ∃ b, v = .slice (some ⟨b, 0, none⟩) 0 0 ∧ w0.heap.size ≤ b ∧ w.heap[b]? = some (.cells #[] e (0, 0))
theorem tab_empty (e : TypeId)
    (hs : ∀ r w, Env r → Grows w0 w → AgreeL a0 E r w (o.looksAt ops) → Guard ops o r true ∧ (execOp r o).run P w = .ok (.value (.slice (some ⟨w.heap.size, 0, none⟩) 0 0)) (w.alloc (.cells #[] e)))
    (hr : wpTab P ops w0 a0 K (⟨o.dst, false, fun _ v w => Emp w0 e v w⟩ :: E) rest) : wpTab P ops w0 a0 K E (o :: rest) :=
  tab_gen false _ (fun _ v w w' ⟨b, h1, h2, h3⟩ hg => ⟨b, h1, h2, hg.block h3⟩) (fun r w hr hg hA => by
    obtain ⟨h1, h2⟩ := hs r w hr hg hA
    refine ⟨h1, ?_⟩
    rw [h2]
    exact ⟨Grows.alloc _ _, 0, (fun h => by cases h), w.heap.size, rfl, hg.size, heap_new _ _ _ rfl⟩) hr

/-- A new block. -/
theorem tab_block (obj : Obj) (mk : Nat → Value)
    (hs : ∀ r w, Env r → Grows w0 w → AgreeL a0 E r w (o.looksAt ops) → Guard ops o r true ∧ (execOp r o).run P w = .ok (.value (mk w.heap.size)) (w.alloc obj))
    (hr : wpTab P ops w0 a0 K (⟨o.dst, false, fun _ v w => ∃ b, v = mk b ∧ w.heap[b]? = some obj⟩ :: E) rest) : wpTab P ops w0 a0 K E (o :: rest) :=
  tab_gen false _ (fun _ v w w' ⟨b, h1, h2⟩ hg => ⟨b, h1, hg.block h2⟩) (fun r w hr hg hA => by
    obtain ⟨h1, h2⟩ := hs r w hr hg hA
    refine ⟨h1, ?_⟩
    rw [h2]
    exact ⟨Grows.alloc _ _, 0, (fun h => by cases h), w.heap.size, rfl, heap_new _ _ _ rfl⟩) hr

/-- append to it. -/
theorem tab_append0 (s x : Operand) (t e : TypeId) (i : TypeInfo) (z : Value) (size bytes m : Nat) (news : List Value)
    (ho : o.op = .call { callee := .builtin .append, args := #[s, x], argTypes := #[t, t] }) (ht : P.underlying t = some (.slice e)) (hi : P.info? e = some i) (hz : i.zero = some z)
    (hsize : i.size = size) (hby : i.bytes = bytes) (hzs : z.cells.size = size) (hsz : 0 < size) (h63 : m ≤ maxLen) (hbytes : m * bytes ≤ 140737488355328)
    (hs : ∀ r w, Env r → Grows w0 w → AgreeL a0 E r w (o.looksAt ops) → Guard ops o r true ∧ Emp w0 e (r s) w ∧ RowAt size w (r x) m news)
    (hr : wpTab P ops w0 a0 K (⟨o.dst, false, fun _ v w => w.ownsRow w0.heap.size e size v m news⟩ :: E) rest) : wpTab P ops w0 a0 K E (o :: rest) :=
  tab_gen false _ (fun _ v w w' h hg => by
    obtain ⟨h0, h1 | ⟨g, cap, cur, hv, hb, hh, rest⟩⟩ := h
    · exact ⟨h0, .inl h1⟩
    · exact ⟨h0, .inr ⟨g, cap, cur, hv, hb, hg.block hh, rest⟩⟩) (fun r w hr hg hA => by
    obtain ⟨h1, ⟨b, h2, h3, h4⟩, h5⟩ := hs r w hr hg hA
    refine ⟨h1, ?_⟩
    obtain ⟨v', w', hrun, hown, hgr⟩ := run_append_zero (P := P) w w0.heap.size t o.type e i z size bytes ht hi hz hsize hby hzs hsz b h3 h4 (r x) m news h5 h63 hbytes hg.size
    unfold execOp
    simp only [ho, resolve, invoke, builtin, Sem.run_bind, Sem.run_pure, Result.andThen_ok, List.map_toArray, List.map_cons, List.map_nil, h2, hrun]
    exact ⟨hgr, 0, (fun h => by cases h), hown⟩) hr

/-- append of a row of cells to a row of the call's own. -/
theorem append_row {w : World} {rest : List Oper} {a : Act} {Q : Exit → Act → World → Prop} (hgd : o.guard = none) (s x : Operand) (t : TypeId)
    (ho : o.op = .call { callee := .builtin .append, args := #[s, x], argTypes := #[t, t] })
    (base : Nat) (e : TypeId) (i : TypeInfo) (z : Value) (size bytes : Nat) (ht : P.underlying t = some (.slice e)) (hi : P.info? e = some i) (hz : i.zero = some z)
    (hsize : i.size = size) (hby : i.bytes = bytes) (hzs : z.cells.size = size) (hsz : 0 < size)
    (v : Value) (n : Nat) (xs : List Value) (hs : a.eval s = v) (hown : w.ownsRow base e size v n xs)
    (m : Nat) (news : List Value) (u : Value) (hx : a.eval x = u) (hu : RowAt size w u m news)
    (h63 : n + m ≤ maxLen) (hbytes : (n + m) * bytes ≤ 140737488355328) (hbase : base ≤ w.heap.size)
    (h : ∀ v' w', w'.ownsRow base e size v' (n + m) (xs ++ news) → (∀ W : World, Grows W w → W.heap.size ≤ base → Grows W w') → wpList P ops Q rest (a.put o.dst v') w') : wpList P ops Q (o :: rest) a w := by
  have hgr : ∀ kk, v.ownBlock = some kk → base ≤ kk := fun kk hkk => by
    obtain ⟨_, ⟨rfl, _⟩ | ⟨g', cap', cur, rfl, hb', _⟩⟩ := hown
    · cases hkk
    · cases hkk; exact hb'
  obtain ⟨hl, h1, h3⟩ := hu
  have some_case : ∀ (ad : Addr) (c : Nat), u = .slice (some ad) m c → (∀ j u, news[j]? = some u → w.cell? (ad.add j) = some u) → wpList P ops Q (o :: rest) a w := fun ad c hux hcells =>
    wpList_append_own w hgd s x t ho base e i z size bytes ht hi hz hsize hby hzs hsz v n xs hs hown ad m c _ (hx.trans hux) hl hcells h1 h63 hbytes hbase
      (fun v' w' hv' hw' _ => h v' w' hv' fun W hW hWs => Below.grown hW hw' (by have := hW.size; omega) fun kk hkk => Nat.le_trans hWs (hgr kk hkk))
  rcases h3 with ⟨hm, ad, c, hux, hac⟩ | ⟨b, off, c, hux, hb, hcl⟩
  · subst hm
    have hn : news = [] := List.eq_nil_of_length_eq_zero (by simpa using hl)
    subst hn
    cases ad with
    | none =>
      rw [hac rfl] at hux
      refine wpList_append_own_none hgd s x t ho base e i size ht hi v n xs hs hown (hx.trans hux) ?_
      exact h v w (by simpa using hown) fun W hW _ => hW
    | some ad => exact some_case ad c hux (fun j u hj => by simp at hj)
  · exact some_case _ c hux fun j u hj => by rw [add_at]; exact hcl j u hj
end
end Go.Tab
