/-
  A range over a function whose yielded values lie in memory that the iterator makes: what the iterator says of a value at its yield (Y) is handed to the loop's body; the loop goes on, or is left by a return.
-/
import Derived.RangeFuncNested
import Derived.RangeFuncBound
import Derived.RangeFuncLeaves
import Derived.Test.YtdiciboaehdckaaTab
namespace Go.Tab
open Go Go.RowKit
section
variable {P : Program} {α : Type}

/-- The loop's own turn of a block without cells, from B on. -/
def Turn (B : Nat) (A C : World) : Prop := ∃ (l : Nat) (o o' : Obj), B ≤ l ∧ A.heap[l]? = some o ∧ o.isCells = false ∧ o.isWalk = false ∧ C = A.putObj l o'
/-- An iterator's word: Y of each value at its yield; Kp of what a round keeps. -/
def SeqY (n : Nat) (P : Program) (gf : Nat) (lb : Array Value) (encs : α → Array Value) (Y : List α → α → World → Prop) (Kp : World → World → Prop) (S Sp : List α → Prop) (w : World) : Prop :=
  ∀ (l : Nat) (J Jx : List α → World → Prop) (W : World), Grows w W → (∀ pre A C, J pre A → Grows A C → J pre C) →
    (∀ pre x V, J pre V → Y pre x V → YieldAt Fence.wide (n - 1) P l (encs x) V fun e V' => (e = .returned (.bool true) ∧ J (pre ++ [x]) V' ∧ Kp V V') ∨ (e = .returned (.bool false) ∧ Jx (pre ++ [x]) V')) →
    J [] W → CallsIn Fence.wide n P gf (#[.func (.yield l) #[] #[]] ++ lb) W fun e W' => (∃ v, e = .returned v) ∧ ((∃ xs, S xs ∧ J xs W') ∨ ∃ pre, Sp pre ∧ Jx pre W')
/-- How a round may be left: off its end, or by a return. -/
def endY (B : Nat) (Kp : World → World → Prop) (I Ix : List α → World → Prop) (xs : List α) (W : World) : Exit → Act → World → Prop
  | .normal, _, W' => KeepsFrom B W W' ∧ Kp W W' ∧ I xs W'
  | .ret, _, W' => KeepsFrom B W W' ∧ Ix xs W'
  | _, _, _ => False
def recY (fn : FuncId) (a : Act) (ps : Array Tmp) (assign body : Code) (d : Nat) (st : LoopState) (pe : Option Code) : Loop :=
  { state := st, pending := pe, fn, tmps := a.tmps, params := ps, assign, body, defers := d }

theorem wide_rangeY {g : Operand} {ps : Array Tmp} {assign body : Code} {Q : Exit → Act → World → Prop} {a : Act} {w : World} {n gf : Nat} {lb : Array Value}
    (hg : a.eval g = .func (.func gf) #[] lb) (eg : ∀ args w, (callFunc gf args).run P w = .ok (.enter gf args) w) {encs : α → Array Value} (hps : ∀ x, (encs x).size = ps.size)
    {Y : List α → α → World → Prop} {Kp : World → World → Prop} {S Sp : List α → Prop} (hseq : SeqY (n - 1) P gf lb encs Y Kp S Sp w)
    (hKt : ∀ {A B C : World}, Kp A B → Kp B C → Kp A C) (hKb : ∀ A C, Turn w.heap.size A C → Kp A C)
    (I Ix : List α → World → Prop) (Ax : List α → α → Act → World → Prop)
    (hIg : ∀ pre A C, I pre A → Grows A C → I pre C) (hIt : ∀ pre A C, I pre A → Turn w.heap.size A C → I pre C) (hXt : ∀ pre A C, Ix pre A → Turn w.heap.size A C → Ix pre C)
    (hAt : ∀ pre x a' A C, Ax pre x a' A → Turn w.heap.size A C → Ax pre x a' C) (h0 : I [] w)
    (hassign : ∀ (l : Nat) (pre : List α) (x : α) (W : World) (K : Act → World → Prop), I pre W → Y pre x W → (∀ a' W', KeepsFrom w.heap.size W W' → Kp W W' → I pre W' → Ax pre x a' W' → K a' W') →
      assign.wpIn (Fence.wide.inRound l) (n - 1 - 1) P (Exit.then K (fun _ _ _ => False)) { tmps := (ps.zip (encs x)).foldl (fun t (p, v) => t.setIfInBounds p v) a.tmps, defers := [] } W)
    (hbody : ∀ (l : Nat) (pre : List α) (x : α) (a' : Act) (W : World), I pre W → Ax pre x a' W → body.wpIn (Fence.wide.inRound l) (n - 1 - 1) P (endY w.heap.size Kp I Ix (pre ++ [x]) W) a' W)
    (hdone : ∀ (xs : List α) (W : World), S xs → I xs W → W.heap[w.heap.size]? = some (.deferred (some [])) → Q .normal { a with defers := { target := .collected w.heap.size, args := #[] } :: a.defers } W)
    (hstop : ∀ (pre : List α) (W : World), Sp pre → Ix pre W → W.heap[w.heap.size]? = some (.deferred (some [])) → Code.ret.wpIn Fence.wide n P Q { a with defers := { target := .collected w.heap.size, args := #[] } :: a.defers } W) (hn : 1 ≤ n) :
    (Code.rangeFunc g ps assign body).wpIn Fence.wide n P Q a w := by
  refine wpIn_rangeFunc fun fn _ => ?_
  let L := recY fn a ps assign body w.heap.size
  let W1 := (w.alloc (.deferred (some []))).alloc (.loop (L .ready none))
  have hL1 : W1.heap[w.heap.size + 1]? = some (.loop (L .ready none)) := heap_new _ _ _ (by rw [World.size_alloc])
  have hD1 : W1.heap[w.heap.size]? = some (.deferred (some [])) := (Grows.alloc _ _).block (heap_new w _ _ rfl)
  have hG1 : Grows w W1 := (Grows.alloc w _).trans (Grows.alloc _ _)
  have turn : ∀ {A : World} {st : LoopState} {pe : Option Code} (r : Loop), A.heap[w.heap.size + 1]? = some (.loop (L st pe)) → Turn w.heap.size A (A.putObj (w.heap.size + 1) (.loop r)) :=
    fun r h => ⟨_, _, _, by omega, h, rfl, rfl, rfl⟩
  have same : ∀ {A : World} {o : Obj} (r : Obj), A.heap[w.heap.size + 1]? = some o → (A.putObj (w.heap.size + 1) r).heap[w.heap.size + 1]? = some r := fun r h => World.putObj_heap_same (Array.getElem?_eq_some_iff.1 h).1
  have othr : ∀ {A : World} (r : Obj), A.heap[w.heap.size]? = some (.deferred (some [])) → (A.putObj (w.heap.size + 1) r).heap[w.heap.size]? = some (.deferred (some [])) := fun r h => (World.putObj_heap_other (by omega)).trans h
  refine ⟨w.heap.size + 1, [{ target := .collected w.heap.size, args := #[] }], W1, { target := .fn (.func gf) lb, args := #[.func (.yield (w.heap.size + 1)) #[] #[]] }, W1, gf, #[.func (.yield (w.heap.size + 1)) #[] #[]] ++ lb, W1,
    run_enterLoop_outer _ _ _ _ _, ?_, fun _ _ => trivial, ?_, fun _ => hn, ?_⟩
  · simp only [resolve, hg]
    simp [go_sem]
  · simp [invoke, go_sem, eg]
  refine (hseq (w.heap.size + 1) (fun pre V => I pre V ∧ V.heap[w.heap.size + 1]? = some (.loop (L .ready none)) ∧ V.heap[w.heap.size]? = some (.deferred (some [])))
    (fun pre V => Ix pre V ∧ V.heap[w.heap.size + 1]? = some (.loop (L .done (some .ret))) ∧ V.heap[w.heap.size]? = some (.deferred (some []))) W1 hG1
    (fun pre A C h hg => ⟨hIg _ _ _ h.1 hg, hg.block h.2.1, hg.block h.2.2⟩) ?_ ⟨hIg _ _ _ h0 hG1, hL1, hD1⟩).mono ?_
  · rintro pre x V ⟨hi, hl, hd⟩ hy
    refine ⟨fn, _, assign, body, run_yield hl (hps x), roundIn_of_wpIn trivial (hassign _ pre x V _ hi hy ?_)⟩
    intro a' V' hk hkp hi' hax
    have hl' := hk.same _ _ (Nat.le_succ _) hl rfl
    have hd' := hk.same _ _ (Nat.le_refl _) hd rfl
    have t1 := turn { L .ready none with state := .busy } hl'
    refine ⟨_, run_beginRound hl' rfl, wpIn_mono (hbody _ pre x a' _ (hIt _ _ _ hi' t1) (hAt _ _ _ _ _ hax t1)) ?_⟩
    have hl2 := same (.loop { L .ready none with state := .busy }) hl'
    have hd2 := othr (.loop { L .ready none with state := .busy }) hd'
    rintro e a3 V3 hp
    cases e with
    | normal =>
      obtain ⟨hk3, hkp3, hi3⟩ := hp
      have hl3 := hk3.same _ _ (Nat.le_succ _) hl2 rfl
      have hd3 := hk3.same _ _ (Nat.le_refl _) hd2 rfl
      have t3 : Turn w.heap.size V3 _ := turn (st := .busy) (pe := none) (L .ready none) hl3
      exact ⟨_, _, run_endRound none hl3, .inl ⟨rfl, ⟨hIt _ _ _ hi3 t3, same _ hl3, othr _ hd3⟩, hKt hkp (hKt (hKb _ _ t1) (hKt hkp3 (hKb _ _ t3)))⟩⟩
    | ret =>
      obtain ⟨hk3, hi3⟩ := hp
      have hl3 := hk3.same _ _ (Nat.le_succ _) hl2 rfl
      have hd3 := hk3.same _ _ (Nat.le_refl _) hd2 rfl
      have t3 : Turn w.heap.size V3 _ := turn (st := .busy) (pe := none) (L .done (some .ret)) hl3
      exact ⟨_, _, run_endRound (some .ret) hl3, .inr ⟨rfl, hXt _ _ _ hi3 t3, same _ hl3, othr _ hd3⟩⟩
    | exit id => exact hp.elim
    | goto t => exact hp.elim
    | panic ch => exact hp.elim
    | outgrown => exact hp.elim
  · rintro e V ⟨⟨v, rfl⟩, (⟨xs, hS, hi, hl, hd⟩ | ⟨pre, hSp, hi, hl, hd⟩)⟩
    · exact ⟨none, _, run_endLoop hl (by simp [L, recY]), hdone xs _ hS (hIt _ _ _ hi (turn _ hl)) (othr _ hd)⟩
    · exact ⟨some .ret, _, run_endLoop hl (by simp [L, recY]), hstop pre _ hSp (hXt _ _ _ hi (turn _ hl)) (othr _ hd)⟩
end
end Go.Tab
