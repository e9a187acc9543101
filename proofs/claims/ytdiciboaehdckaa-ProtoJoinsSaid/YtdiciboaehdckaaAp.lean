/-
  append of a row of numbers, nil or not, to a row of the call's own.
-/
import Derived.Test.YtdiciboaehdckaaV3
import Derived.Laws.AppendOwnNone
import Derived.WideShapes
namespace Go.Proofs.Ytdiciboaehdckaa
open Go.RowKit Go.Tab Go.WideShapes

theorem append_nums {P : Program} {w : World} {ops : Array Oper} {rest : List Oper} {o : Oper} {a : Act} {Q : Exit → Act → World → Prop} (hgd : o.guard = none) (s x : Operand) (t : TypeId)
    (ho : o.op = .call { callee := .builtin .append, args := #[s, x], argTypes := #[t, t] })
    (base : Nat) (e : TypeId) (i : TypeInfo) (z : Value) (bytes : Nat) (ht : P.underlying t = some (.slice e)) (hi : P.info? e = some i) (hz : i.zero = some z)
    (hsize : i.size = 1) (hby : i.bytes = bytes) (hzs : z.cells.size = 1)
    (v : Value) (n : Nat) (xs : List Value) (hs : a.eval s = v) (hown : w.ownsRow base e 1 v n xs)
    (k : IntKind) (l : List Nat) (u : Value) (hx : a.eval x = u) (hu : NumsAt k w u l)
    (h63 : n + l.length ≤ maxLen) (hbytes : (n + l.length) * bytes ≤ 140737488355328) (hbase : base ≤ w.heap.size)
    (h : ∀ v' w', w'.ownsRow base e 1 v' (n + l.length) (xs ++ l.map fun x : Nat => .int k (x : Int)) → (∀ W : World, Grows W w → W.heap.size ≤ base → Grows W w') → wpList P ops Q rest (a.put o.dst v') w') : wpList P ops Q (o :: rest) a w := by
  have hgr : ∀ kk, v.ownBlock = some kk → base ≤ kk := fun kk hkk => by
    obtain ⟨_, ⟨rfl, _⟩ | ⟨g', cap', cur, rfl, hb', _⟩⟩ := hown
    · cases hkk
    · cases hkk; exact hb'
  have some_case : ∀ (ad : Addr) (c : Nat), u = .slice (some ad) l.length c → (∀ j u, (l.map fun x : Nat => Value.int k (x : Int))[j]? = some u → w.cell? (ad.add j) = some u) → wpList P ops Q (o :: rest) a w := fun ad c hux hcells =>
    wpList_append_own w hgd s x t ho base e i z 1 bytes ht hi hz hsize hby hzs (by decide) v n xs hs hown ad l.length c _ (hx.trans hux) (by simp) hcells
      (fun u hu => by obtain ⟨x, _, rfl⟩ := List.mem_map.1 hu; rfl) h63 hbytes hbase
      (fun v' w' hv' hw' _ => h v' w' hv' fun W hW hWs => Below.grown hW hw' (by have := hW.size; omega) fun kk hkk => Nat.le_trans hWs (hgr kk hkk))
  obtain ⟨hl, ⟨⟨ad, c, hux, hac⟩, rfl⟩ | ⟨b, off, c, hux, hb, hc, hcl⟩⟩ := hu
  · cases ad with
    | none =>
      rw [hac rfl] at hux
      refine wpList_append_own_none hgd s x t ho base e i 1 ht hi v n xs hs hown (hx.trans hux) ?_
      exact h v w (by simpa using hown) fun W hW _ => hW
    | some ad => exact some_case ad c hux (fun j u hj => by simp at hj)
  · refine some_case _ c hux fun j u hj => ?_
    rw [List.getElem?_map] at hj
    cases hlj : l[j]? with
    | none => rw [hlj] at hj; cases hj
    | some y =>
      rw [hlj] at hj
      cases hj
      have hjl : j < l.length := (List.getElem?_eq_some_iff.1 hlj).1
      have := hcl j hjl
      rw [show l.getD j 0 = y by rw [List.getD_eq_getElem?_getD, hlj]; rfl] at this
      rw [add_plain]
      exact this
end Go.Proofs.Ytdiciboaehdckaa
