/-
  A step of a region's table: an append to a new slice that is full.
-/
import Derived.Test.YtlgplhanhnjeiaaRB
namespace Go.Tab
open Go Go.RowKit

section
variable {P : Program} (w : World)
theorem setRow_same (b : Nat) (cur : Array Value) (e : TypeId) (hg : w.heap[b]? = some (.cells cur e (0, 0))) : Grows w (w.setRow b cur) :=
  ⟨rfl, rfl, rfl, by simp, fun k hk => by
    by_cases hkb : k = b
    · subst hkb; rw [setRow_heap w k cur _ e _ hg, hg]
    · exact setRow_other w b k _ hkb⟩
/-- append to a new slice that is full. -/
theorem run_append_full (base : Nat) (t ty e : TypeId) (i : TypeInfo) (z : Value) (size bytes : Nat) (ht : P.underlying t = some (.slice e)) (hi : P.info? e = some i) (hz : i.zero = some z)
    (hsize : i.size = size) (hby : i.bytes = bytes) (hzs : z.cells.size = size) (hsz : 0 < size)
    (b k : Nat) (cur : Array Value) (hk : cur.size = k * size) (hone : ∀ u ∈ cur.toList, u.oneCell' = true) (hb : base ≤ b) (hg : w.heap[b]? = some (.cells cur e (0, 0))) (u : Value) (m : Nat) (news : List Value) (hu : RowAt size w u m news)
    (h63 : k + m ≤ maxLen) (hbytes : (k + m) * bytes ≤ 140737488355328) (hbase : base ≤ w.heap.size) :
    ∃ v' w', (Builtin.append_ #[t, t] ty #[.slice (some ⟨b, 0, none⟩) k k, u]).run P w = .ok v' w' ∧ w'.ownsRow base e size v' (k + m) (cur.toList ++ news) ∧ Grows w w' := by
  have own0 : w.ownsRow base e size (.slice (some ⟨b, 0, none⟩) k k) k cur.toList := ⟨by simpa using hk, .inr ⟨b, k, cur, rfl, hb, hg, Nat.le_refl _, by omega, hk, by rw [← hk]; exact List.take_length⟩⟩
  obtain ⟨hl, h1, h3⟩ := hu
  by_cases hm : m = 0
  · subst hm
    have hn : news = [] := List.eq_nil_of_length_eq_zero (by simpa using hl)
    subst hn
    have key : ∀ a c, u = .slice a 0 c → (a = none → c = 0) → ∃ v' w', (Builtin.append_ #[t, t] ty #[.slice (some ⟨b, 0, none⟩) k k, u]).run P w = .ok v' w' ∧ w'.ownsRow base e size v' (k + 0) (cur.toList ++ []) ∧ Grows w w' := by
      intro a c hu hac
      subst hu
      cases a with
      | none =>
        rw [hac rfl]
        exact ⟨_, _, run_append_of_none w t ty e i ht hi _ _ k k rfl (Nat.le_refl _), by simpa using own0, Grows.refl _⟩
      | some a =>
        have hr := run_append_room (P := P) w t ty e i ht hi b k k cur hg a 0 c [] (by simp) (by simp) (by simp) (Nat.le_refl _) (by rw [hsize]; simp [hk])
        have e1 : (cur.toList.take (k * i.size) ++ [] ++ cur.toList.drop (k * i.size + ([] : List Value).length)).toArray = cur := by
          rw [hsize, List.append_nil, List.length_nil, Nat.add_zero, List.take_append_drop]
        rw [e1] at hr
        have hs := setRow_same w b cur e hg
        refine ⟨_, _, hr, ?_, hs⟩
        obtain ⟨h0, h1 | ⟨g', cap', cur', hv, hb', hh, rest⟩⟩ := own0
        · cases h1.1
        · exact ⟨by simpa using h0, .inr ⟨g', cap', cur', hv, hb', hs.block hh, by simpa using rest⟩⟩
    rcases h3 with ⟨_, a, c, hu, hac⟩ | ⟨b', off, c, hu, _, _⟩
    · exact key a c hu hac
    · exact key _ c hu (fun h => by cases h)
  · rcases h3 with ⟨h0, _⟩ | ⟨b', off, c, rfl, hb', hc⟩
    · exact absurd h0 hm
    · subst hsize
      subst hby
      have hnews : ∀ j x, news[j]? = some x → w.cell? ((⟨b', off, none⟩ : Addr).add j) = some x := fun j x hx => by rw [add_at]; exact hc j x hx
      have holds : ∀ j x, cur.toList[j]? = some x → w.cell? ((⟨b, 0, none⟩ : Addr).add j) = some x := fun j x hx => by
        rw [add_at, Nat.zero_add]
        simp only [World.cell?, hg]
        simpa using hx
      have hr := run_append_grow (P := P) w t ty e i z ht hi hz ⟨b, 0, none⟩ k k cur.toList (by simpa using hk) holds ⟨b', off, none⟩ m c news hl hnews (by omega) (by simp only [maxLen] at h63; omega) (growslice_fits (by omega) hbytes)
      refine ⟨_, _, hr, ?_, ⟨rfl, rfl, rfl, by simp, fun k hk => heap_alloc_old w.drew _ k hk⟩⟩
      have hge := grownCap_ge w (k + m) k e
      have hcm : grownCap w (k + m) k e ≤ maxLen := grownCap_le_maxLen w (k + m) k e (by omega)
      refine ⟨by rw [List.length_append, hl, Nat.add_mul]; simp [hk], .inr ⟨w.heap.size, _, _, rfl, hbase, heap_alloc_new w.drew _, by omega, hcm, ?_, ?_⟩⟩
      · simp only [Array.size_append, List.size_toArray, size_zeroCells, hzs, hl, Array.length_toList, hk, ← Nat.add_mul]
        congr 1
        omega
      · simp only [Array.toList_append, List.append_assoc]
        rw [← List.append_assoc]
        rw [show (k + m) * i.size = (cur.toList ++ news).length by rw [List.length_append, hl, Nat.add_mul]; simp [hk]]
        exact List.take_left
end

section
variable {P : Program} {ops : Array Oper} {w0 : World} {a0 : Act} {K : List Ent → Prop} {E : List Ent} {o : Oper} {rest : List Oper}
/-- A new block, behind all that was. -/
theorem tab_blockN (obj : Obj) (mk : Nat → Value)
    (hs : ∀ r w, Env r → Grows w0 w → AgreeL a0 E r w (o.looksAt ops) → Guard ops o r true ∧ (execOp r o).run P w = .ok (.value (mk w.heap.size)) (w.alloc obj))
    (hr : wpTab P ops w0 a0 K (⟨o.dst, false, fun _ v w => ∃ b, v = mk b ∧ w0.heap.size ≤ b ∧ w.heap[b]? = some obj⟩ :: E) rest) : wpTab P ops w0 a0 K E (o :: rest) :=
  tab_gen false _ (fun _ v w w' ⟨b, h1, h0, h2⟩ hg => ⟨b, h1, h0, hg.block h2⟩) (fun r w hr hg hA => by
    obtain ⟨h1, h2⟩ := hs r w hr hg hA
    refine ⟨h1, ?_⟩
    rw [h2]
    exact ⟨Grows.alloc _ _, 0, (fun h => by cases h), w.heap.size, rfl, hg.size, heap_new _ _ _ rfl⟩) hr
/-- append to it, in a table. -/
theorem tab_appendF (s x : Operand) (t e : TypeId) (i : TypeInfo) (z : Value) (size bytes k m : Nat) (cur : Array Value) (news : List Value)
    (ho : o.op = .call { callee := .builtin .append, args := #[s, x], argTypes := #[t, t] }) (ht : P.underlying t = some (.slice e)) (hi : P.info? e = some i) (hz : i.zero = some z)
    (hsize : i.size = size) (hby : i.bytes = bytes) (hzs : z.cells.size = size) (hsz : 0 < size) (hk : cur.size = k * size) (hone : ∀ u ∈ cur.toList, u.oneCell' = true) (h63 : k + m ≤ maxLen) (hbytes : (k + m) * bytes ≤ 140737488355328)
    (hs : ∀ r w, Env r → Grows w0 w → AgreeL a0 E r w (o.looksAt ops) → Guard ops o r true ∧ (∃ b, r s = .slice (some ⟨b, 0, none⟩) k k ∧ w0.heap.size ≤ b ∧ w.heap[b]? = some (.cells cur e (0, 0))) ∧ RowAt size w (r x) m news)
    (hr : wpTab P ops w0 a0 K (⟨o.dst, false, fun _ v w => w.ownsRow w0.heap.size e size v (k + m) (cur.toList ++ news)⟩ :: E) rest) : wpTab P ops w0 a0 K E (o :: rest) :=
  tab_gen false _ (fun _ v w w' h hg => by
    obtain ⟨h0, h1 | ⟨g, cap, cur, hv, hb, hh, rest⟩⟩ := h
    · exact ⟨h0, .inl h1⟩
    · exact ⟨h0, .inr ⟨g, cap, cur, hv, hb, hg.block hh, rest⟩⟩) (fun r w hr hg hA => by
    obtain ⟨h1, ⟨b, h2, h3, h4⟩, h5⟩ := hs r w hr hg hA
    refine ⟨h1, ?_⟩
    obtain ⟨v', w', hrun, hown, hgr⟩ := run_append_full (P := P) w w0.heap.size t o.type e i z size bytes ht hi hz hsize hby hzs hsz b k cur hk hone h3 h4 (r x) m news h5 h63 hbytes hg.size
    unfold execOp
    simp only [ho, resolve, invoke, builtin, Sem.run_bind, Sem.run_pure, Result.andThen_ok, List.map_toArray, List.map_cons, List.map_nil, h2, hrun]
    exact ⟨hgr, 0, (fun h => by cases h), hown⟩) hr
end
end Go.Tab
