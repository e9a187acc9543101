/-
  A region that draws its order, by a table: for each operation a property of the value that it leaves, which holds in every world that has grown since. Proved once, for every order.
-/
import Derived.StillTail
import Derived.Below
import Derived.Tactics
namespace Go.Tab
open Go Go.RowKit

/-- Nothing that is there has turned; more may have come. -/
def Grows (w w' : World) : Prop := Below w.heap.size w w'
theorem Grows.refl (w : World) : Grows w w := Below.refl _ _
theorem Grows.trans {a b c : World} (h : Grows a b) (k : Grows b c) : Grows a c := Below.trans h (Below.mono k h.size)

structure Ent where
  dst : Option Tmp
  fr : Bool
  prop : Nat → Value → World → Prop

def Up (p : Nat → Value → World → Prop) : Prop := ∀ b v w w', p b v w → Grows w w' → p b v w'

def Born (fr : Bool) (w w' : World) (b : Nat) : Prop := fr = true → w.heap.size ≤ b ∧ b < w'.heap.size

def HoldsR (P : Program) (w : World) (fr : Bool) (p : Nat → Value → World → Prop) : Result Next → Prop
  | .ok (.value v) w' => Grows w w' ∧ ∃ b, Born fr w w' b ∧ p b v w'
  | .ok .skip w' => Grows w w' ∧ ∃ b, Born fr w w' b ∧ p b undef w'
  | .ok (.enter f args) w' => Grows w w' ∧ Calls P f args w' (fun e w'' => ∃ v b, e = .returned v ∧ Grows w' w'' ∧ Born fr w w'' b ∧ p b v w'')
  | _ => False

def Holds (P : Program) (o : Oper) (a : Act) (w : World) (fr : Bool) (p : Nat → Value → World → Prop) : Prop :=
  HoldsR P w fr p ((execOp a.eval o).run P w)

def Spec (P : Program) (ops : Array Oper) (o : Oper) (a : Act) (w : World) (fr : Bool) (p : Nat → Value → World → Prop) : Prop :=
  if Region.wanted o (yielded ops a.tmps) then Holds P o a w fr p else fr = false ∧ ∃ b, p b undef w

def AgreeT (a0 : Act) (E : List Ent) (r : Operand → Value) (w : World) (t : Tmp) : Prop :=
  match E.find? (fun e => e.dst == some t) with
  | some e => ∃ b, e.prop b (r (.tmp t)) w
  | none => r (.tmp t) = a0.eval (.tmp t)

def AgreeL (a0 : Act) (E : List Ent) (r : Operand → Value) (w : World) : List Tmp → Prop
  | [] => True
  | t :: ts => AgreeT a0 E r w t ∧ AgreeL a0 E r w ts

theorem AgreeL.of_all {a0 : Act} {E : List Ent} {a : Operand → Value} {w : World} : ∀ {l : List Tmp}, (∀ t ∈ l, AgreeT a0 E a w t) → AgreeL a0 E a w l
  | [], _ => trivial
  | t :: ts, h => ⟨h t (by simp), AgreeL.of_all fun t' h' => h t' (by simp [h'])⟩

def wpTab (P : Program) (ops : Array Oper) (w0 : World) (a0 : Act) (K : List Ent → Prop) : List Ent → List Oper → Prop
  | E, [] => K E.reverse
  | E, o :: rest => ∃ fr p, Up p ∧ (∀ a w, Grows w0 w → AgreeL a0 E a.eval w (o.looksAt ops) → Spec P ops o a w fr p) ∧
      wpTab P ops w0 a0 K (⟨o.dst, fr, p⟩ :: E) rest

def Apart (b : Nat) : List Nat → Prop
  | [] => True
  | x :: xs => b ≠ x ∧ Apart b xs
theorem Apart.of {b : Nat} : ∀ {l : List Nat}, (∀ x ∈ l, b ≠ x) → Apart b l
  | [], _ => trivial
  | x :: xs, h => ⟨h x (by simp), Apart.of fun y hy => h y (by simp [hy])⟩

def Out (w0 : World) (K : Act → World → Prop) (w : World) : List Ent → List Nat → Act → Prop
  | [], _, a => K a w
  | ⟨d, false, p⟩ :: E, fs, a => ∀ b v, p b v w → Out w0 K w E fs (a.put d v)
  | ⟨d, true, p⟩ :: E, fs, a => ∀ b v, p b v w → w0.heap.size ≤ b → b < w.heap.size → Apart b fs → Out w0 K w E (b :: fs) (a.put d v)

section
variable {P : Program} {ops : Array Oper} {md : Region.Mode}

theorem wpTab_spec {w0 : World} {a0 : Act} {K : List Ent → Prop} : ∀ (rest : List Oper) (E : List Ent), wpTab P ops w0 a0 K E rest →
    ∃ F : List Ent, F.length = rest.length ∧
      (∀ i o, rest[i]? = some o → ∃ e, F[i]? = some e ∧ e.dst = o.dst ∧ Up e.prop ∧
        ∀ a w, Grows w0 w → AgreeL a0 ((F.take i).reverse ++ E) a.eval w (o.looksAt ops) → Spec P ops o a w e.fr e.prop) ∧ K (E.reverse ++ F)
  | [], E, h => ⟨[], rfl, fun i o hi => by simp at hi, by simpa [wpTab] using h⟩
  | o :: rest, E, h => by
    obtain ⟨fr, p, hup, hs, hr⟩ := h
    obtain ⟨F, hl, hF, hK⟩ := wpTab_spec rest _ hr
    refine ⟨⟨o.dst, fr, p⟩ :: F, by simp [hl], ?_, by simpa using hK⟩
    intro i o' hi
    cases i with
    | zero =>
      simp at hi; subst hi
      exact ⟨_, rfl, rfl, hup, by simpa using hs⟩
    | succ i =>
      simp at hi
      obtain ⟨e, h1, h2, h3, h4⟩ := hF i o' hi
      exact ⟨e, by simpa using h1, h2, h3, by simpa using h4⟩

def lookB (md : Region.Mode) (ops : Array Oper) (i : Nat) (o : Oper) (k : Nat) (d : Tmp) : Bool :=
  (k == i || o.dst != some d) &&
    (!(o.looksAt ops).contains d || k == i || (decide (k < i) && Region.waitsFor md ops i k) || (decide (i < k) && Region.waitsFor md ops k i))

def tabB (md : Region.Mode) (ops : Array Oper) (n size : Nat) : Bool :=
  decide (n ≤ ops.size) &&
  ((List.range ops.size).all fun i => match ops[i]? with
    | none => false
    | some o => (o.after.all fun e => !Region.binds md e || decide (e.on < i)) &&
        (match o.dst with | none => true | some d => decide (d < size)) &&
        (decide (n ≤ i) || ((List.range n).all fun k => match ops[k]? with
          | none => false
          | some ok => match ok.dst with
            | none => true
            | some d => lookB md ops i o k d))) &&
  (decide (n = ops.size) || (Region.sinkB md ops n && Region.chainB md ops n)) &&
  Region.seqB md ops (ops.size - n) n (Array.ofFn (n := ops.size) fun i => decide (i.val < n))

structure TabOk (md : Region.Mode) (ops : Array Oper) (n size : Nat) : Prop where
  le : n ≤ ops.size
  back : ∀ (i : Nat) (o : Oper), ops[i]? = some o → ∀ e ∈ o.after, Region.binds md e = true → e.on < i
  small : ∀ (i : Nat) (o : Oper) (d : Tmp), ops[i]? = some o → o.dst = some d → d < size
  apart : ∀ (i k : Nat) (o ok : Oper) (d : Tmp), i < n → k < n → ops[i]? = some o → ops[k]? = some ok → ok.dst = some d → k ≠ i → o.dst ≠ some d
  looks : ∀ (i k : Nat) (o ok : Oper) (d : Tmp), i < n → k < n → ops[i]? = some o → ops[k]? = some ok → ok.dst = some d → d ∈ o.looksAt ops → k ≠ i →
    (k < i ∧ Region.waitsFor md ops i k = true) ∨ (i < k ∧ Region.waitsFor md ops k i = true)
  sink : n = ops.size ∨ (Region.sinkB md ops n = true ∧ Region.chainB md ops n = true)
  seq : Region.seqB md ops (ops.size - n) n (Array.ofFn (n := ops.size) fun i => decide (i.val < n)) = true

theorem TabOk.of {n size : Nat} (h : tabB md ops n size = true) : TabOk md ops n size := by
  simp only [tabB, Bool.and_eq_true, decide_eq_true_eq, Bool.or_eq_true] at h
  obtain ⟨⟨⟨hle, hall⟩, hsink⟩, hseq⟩ := h
  have hI : ∀ (i : Nat) (o : Oper), ops[i]? = some o → (∀ e ∈ o.after, Region.binds md e = true → e.on < i) ∧ (∀ d, o.dst = some d → d < size) ∧
      (i < n → ∀ k ok d, k < n → ops[k]? = some ok → ok.dst = some d → lookB md ops i o k d = true) := by
    intro i o ho
    have hi : i < ops.size := (Array.getElem?_eq_some_iff.1 ho).1
    have h1 := List.all_eq_true.1 hall i (List.mem_range.2 hi)
    simp only [ho, Bool.and_eq_true, Bool.or_eq_true, decide_eq_true_eq] at h1
    obtain ⟨⟨ha, hd⟩, hk⟩ := h1
    refine ⟨fun e he hb => by have := Array.all_eq_true_iff_forall_mem.1 ha e he; simpa [hb] using this, fun d hd' => by simpa [hd'] using hd, fun hin k ok d hkn hok hdk => ?_⟩
    rcases hk with hk | hk
    · omega
    · have h2 := List.all_eq_true.1 hk k (List.mem_range.2 hkn)
      simpa only [hok, hdk] using h2
  refine ⟨hle, fun i o ho => (hI i o ho).1, fun i o d ho hd => (hI i o ho).2.1 d hd, ?_, ?_, hsink, hseq⟩
  · intro i k o ok d hi hk ho hok hd hne
    have := (hI i o ho).2.2 hi k ok d hk hok hd
    simp only [lookB, Bool.and_eq_true, Bool.or_eq_true, beq_iff_eq, bne_iff_ne] at this
    exact this.1.resolve_left hne
  · intro i k o ok d hi hk ho hok hd hl hne
    have := (hI i o ho).2.2 hi k ok d hk hok hd
    simp only [lookB, Bool.and_eq_true, Bool.or_eq_true, beq_iff_eq, decide_eq_true_eq, Bool.not_eq_true', List.contains_iff_mem, ← Bool.not_eq_true] at this
    rcases this.2 with ((h | h) | h) | h
    · exact absurd hl h
    · exact absurd h hne
    · exact .inl h
    · exact .inr h

structure Inv (md : Region.Mode) (ops : Array Oper) (n : Nat) (E : List Ent) (w0 : World) (a0 : Act) (listed : Array Bool) (a : Act) (w : World) : Prop where
  head : HeadInv md ops n listed
  grows : Grows w0 w
  defers : a.defers = a0.defers
  size : a.tmps.size = a0.tmps.size
  vals : ∃ (V : Nat → Value) (B : Nat → Nat),
    (∀ i e, listed.getD i false = true → E[i]? = some e → e.prop (B i) (V i) w ∧ (e.fr = true → w0.heap.size ≤ B i ∧ B i < w.heap.size) ∧ (∀ t, e.dst = some t → a.tmps[t]? = some (V i))) ∧
    (∀ i j ei ej, listed.getD i false = true → listed.getD j false = true → E[i]? = some ei → E[j]? = some ej → ei.fr = true → ej.fr = true → i ≠ j → B i ≠ B j)
  rest : ∀ t, (∀ i e, listed.getD i false = true → E[i]? = some e → e.dst ≠ some t) → a.tmps[t]? = a0.tmps[t]?

theorem put_tmps_none (a : Act) (v : Value) : a.put none v = a := rfl
theorem put_tmps_size (a : Act) (d : Option Tmp) (v : Value) : (a.put d v).tmps.size = a.tmps.size := by
  cases d <;> simp [Act.put]
theorem put_defers (a : Act) (d : Option Tmp) (v : Value) : (a.put d v).defers = a.defers := by
  cases d <;> simp [Act.put]
theorem put_tmps_same (a : Act) (d : Tmp) (v : Value) (h : d < a.tmps.size) : (a.put (some d) v).tmps[d]? = some v := by
  simp [Act.put, h]
theorem put_tmps_ne (a : Act) (d : Option Tmp) (t : Tmp) (v : Value) (h : d ≠ some t) : (a.put d v).tmps[t]? = a.tmps[t]? := by
  cases d with
  | none => rfl
  | some d => simp [Act.put, Array.getElem?_setIfInBounds_ne (show d ≠ t from fun e => h (e ▸ rfl))]

theorem Inv.step {n size : Nat} {E : List Ent} {w0 : World} {a0 : Act} {listed : Array Bool} {a : Act} {w : World} (ok : TabOk md ops n size) (hsz : a0.tmps.size = size)
    (hE : ∀ i e, E[i]? = some e → i < n ∧ ∃ o, ops[i]? = some o ∧ e.dst = o.dst ∧ Up e.prop)
    (inv : Inv md ops n E w0 a0 listed a w) {i : Nat} {e : Ent} (hr : i ∈ Region.ready md ops listed) (he : E[i]? = some e)
    {v : Value} {b : Nat} {w' : World} (hg : Grows w w') (hb : Born e.fr w w' b) (hp : e.prop b v w') :
    Inv md ops n E w0 a0 (listed.setIfInBounds i true) (a.put e.dst v) w' := by
  obtain ⟨hin, o, ho, hdst, hup⟩ := hE i e he
  have hun := (mem_ready.1 hr).1
  have hset : ∀ j, (listed.setIfInBounds i true).getD j false = true → j = i ∨ (j ≠ i ∧ listed.getD j false = true) := fun j hj => by
    by_cases hji : j = i
    · exact .inl hji
    · rw [getD_set_ne false (Ne.symm hji)] at hj; exact .inr ⟨hji, hj⟩
  obtain ⟨V, B, hV, hB⟩ := inv.vals
  have hnew : ∀ j ej, j ≠ i → E[j]? = some ej → ∀ t, ej.dst = some t → e.dst ≠ some t := fun j ej hji hej t ht => by
    obtain ⟨hjn, oj, hoj, hdj, _⟩ := hE j ej hej
    rw [hdst]
    exact ok.apart i j o oj t hin hjn ho hoj (hdj ▸ ht) hji
  refine ⟨inv.head.set hr hin, inv.grows.trans hg, by rw [put_defers]; exact inv.defers, by rw [put_tmps_size]; exact inv.size, ?_, ?_⟩
  · refine ⟨fun j => if j = i then v else V j, fun j => if j = i then b else B j, ?_, ?_⟩
    · intro j ej hj hej
      rcases hset j hj with rfl | ⟨hji, hj'⟩
      · have : ej = e := Option.some.inj (hej.symm.trans he)
        subst this
        simp only [if_true]
        refine ⟨hp, fun hf => ⟨Nat.le_trans inv.grows.size (hb hf).1, (hb hf).2⟩, fun t ht => ?_⟩
        rw [ht]
        exact put_tmps_same _ _ _ (by rw [inv.size, hsz]; exact ok.small j o t ho (hdst ▸ ht))
      · simp only [if_neg hji]
        obtain ⟨h1, h2, h3⟩ := hV j ej hj' hej
        refine ⟨(hE j ej hej).2.choose_spec.2.2 _ _ _ _ h1 hg, fun hf => ⟨(h2 hf).1, Nat.lt_of_lt_of_le (h2 hf).2 hg.size⟩, fun t ht => ?_⟩
        rw [put_tmps_ne _ _ _ _ (hnew j ej hji hej t ht)]
        exact h3 t ht
    · intro j k ej ek hj hk hej hek hfj hfk hjk
      rcases hset j hj with rfl | ⟨hji, hj'⟩ <;> rcases hset k hk with rfl | ⟨hki, hk'⟩
      · exact absurd rfl hjk
      · simp only [if_true, if_neg hki]
        have h1 := ((hV k ek hk' hek).2.1 hfk).2
        have : ej = e := Option.some.inj (hej.symm.trans he)
        subst this
        have h2 := (hb hfj).1
        omega
      · simp only [if_true, if_neg hji]
        have h1 := ((hV j ej hj' hej).2.1 hfj).2
        have : ek = e := Option.some.inj (hek.symm.trans he)
        subst this
        have h2 := (hb hfk).1
        omega
      · simp only [if_neg hji, if_neg hki]
        exact hB j k ej ek hj' hk' hej hek hfj hfk hjk
  · intro t ht
    rw [put_tmps_ne _ _ _ _ (ht i e (by
      have hs : i < listed.size := by rw [inv.head.size]; exact Nat.lt_of_lt_of_le hin ok.le
      simp [hs]) he)]
    refine inv.rest t fun j ej hj hej => ht j ej ?_ hej
    exact getD_set_true hj

theorem find_none_all {E : List Ent} {t : Tmp} (h : E.find? (fun e => e.dst == some t) = none) : ∀ e ∈ E, e.dst ≠ some t := fun e he hd => by
  have := List.find?_eq_none.1 h e he
  simp [hd] at this

theorem Inv.agree {n size : Nat} {E : List Ent} {w0 : World} {a0 : Act} {listed : Array Bool} {a : Act} {w : World} (ok : TabOk md ops n size)
    (hE : ∀ i e, E[i]? = some e → i < n ∧ ∃ o, ops[i]? = some o ∧ e.dst = o.dst ∧ Up e.prop) (hlen : E.length = n)
    (inv : Inv md ops n E w0 a0 listed a w) {i : Nat} {o : Oper} (hr : i ∈ Region.ready md ops listed) (hin : i < n) (ho : ops[i]? = some o) :
    AgreeL a0 (E.take i).reverse a.eval w (o.looksAt ops) := by
  refine AgreeL.of_all fun t ht => ?_
  obtain ⟨hun, o', ho', hall⟩ := mem_ready.1 hr
  have : o' = o := Option.some.inj (ho'.symm.trans ho)
  subst this
  obtain ⟨V, B, hV, _⟩ := inv.vals
  unfold AgreeT
  cases hf : (E.take i).reverse.find? (fun e => e.dst == some t) with
  | some e =>
    have hm := List.mem_reverse.1 (List.mem_of_find?_eq_some hf)
    have hd : e.dst = some t := by simpa using List.find?_some hf
    obtain ⟨k, hk, hke⟩ := List.mem_iff_getElem.1 hm
    have hki : k < i := by simp at hk; omega
    have hek : E[k]? = some e := by
      rw [List.getElem_take] at hke
      rw [← hke]
      exact List.getElem?_eq_getElem (by simp at hk; omega)
    obtain ⟨hkn, ok', hok', hdk, _⟩ := hE k e hek
    have hw := (ok.looks i k o' ok' t hin hkn ho hok' (hdk ▸ hd) ht (by omega)).resolve_right (fun h => by omega)
    obtain ⟨o2, ho2, ed, hed, hbind, hon⟩ := Region.waitsFor_spec hw.2
    have : o2 = o' := Option.some.inj (ho2.symm.trans ho)
    subst this
    have hl := hall ed hed hbind
    rw [hon] at hl
    obtain ⟨h1, _, h3⟩ := hV k e hl hek
    refine ⟨B k, ?_⟩
    have : a.eval (.tmp t) = V k := by simp [Act.eval, h3 t hd]
    rw [this]
    exact h1
  | none =>
    have hno := find_none_all hf
    have hrest := inv.rest t fun k e hl hek hd => by
      obtain ⟨hkn, ok', hok', hdk, _⟩ := hE k e hek
      by_cases hki : k < i
      · refine hno e ?_ hd
        have hk' : k < (E.take i).length := by simp; omega
        have : (E.take i)[k]? = some e := by rw [List.getElem?_take_of_lt hki]; exact hek
        exact List.mem_reverse.2 (List.mem_of_getElem? this)
      · by_cases hke : k = i
        · subst hke
          have := getD_both hun
          rw [hl] at this; cases this
        · have hw := (ok.looks i k o' ok' t hin hkn ho hok' (hdk ▸ hd) ht (by omega)).resolve_left (fun h => by omega)
          obtain ⟨o2, ho2, ed, hed, hbind, hon⟩ := Region.waitsFor_spec hw.2
          have h1 := inv.head.closed k o2 ho2 hl ed hed hbind
          rw [hon, getD_both hun] at h1
          cases h1
    simp [Act.eval, hrest]

theorem Inv.wpOp {n size : Nat} {E : List Ent} {w0 : World} {a0 : Act} {listed : Array Bool} {a : Act} {w : World} {Q : Exit → Act → World → Prop} (ok : TabOk md ops n size) (hsz : a0.tmps.size = size)
    (hE : ∀ i e, E[i]? = some e → i < n ∧ ∃ o, ops[i]? = some o ∧ e.dst = o.dst ∧ Up e.prop) (hlen : E.length = n)
    (hS : ∀ i o e, ops[i]? = some o → E[i]? = some e → ∀ a w, Grows w0 w → AgreeL a0 (E.take i).reverse a.eval w (o.looksAt ops) → Spec P ops o a w e.fr e.prop)
    (inv : Inv md ops n E w0 a0 listed a w) {i : Nat} (hr : i ∈ Region.ready md ops listed) (hin : i < n) :
    wpOp P ops Q i (fun a' w' => Inv md ops n E w0 a0 (listed.setIfInBounds i true) a' w') a w := by
  have hi : i < ops.size := Nat.lt_of_lt_of_le hin ok.le
  have ho : ops[i]? = some ops[i] := Array.getElem?_eq_getElem hi
  generalize ops[i] = o at ho
  have he : E[i]? = some (E[i]'(by omega)) := List.getElem?_eq_getElem (by omega)
  generalize E[i]'(by omega) = e at he
  have hdst : e.dst = o.dst := by
    obtain ⟨_, o', ho', hd, _⟩ := hE i e he
    rw [hd, Option.some.inj (ho'.symm.trans ho)]
  have hs := hS i o e ho he a w inv.grows (inv.agree ok hE hlen hr hin ho)
  unfold Go.wpOp
  simp only [ho]
  unfold Spec at hs
  split
  · rename_i hw
    simp only [hw, if_true] at hs
    refine .inl ?_
    unfold Oper.wp
    unfold Holds at hs
    generalize (execOp a.eval o).run P w = r at hs
    cases r with
    | ok nx w' =>
      cases nx <;> simp only [HoldsR] at hs <;> simp only [Oper.upon]
      case value v =>
        obtain ⟨hg, b, hb, hp⟩ := hs
        rw [← hdst]; exact inv.step ok hsz hE hr he hg hb hp
      case skip =>
        obtain ⟨hg, b, hb, hp⟩ := hs
        rw [← hdst]; exact inv.step ok hsz hE hr he hg hb hp
      case enter f args =>
        obtain ⟨hg, hc⟩ := hs
        refine hc.mono fun en w'' ⟨v, b, hv, hg', hb, hp⟩ => ?_
        subst hv
        rw [← hdst]; exact inv.step ok hsz hE hr he (hg.trans hg') hb hp
    | halt x w' => simp only [HoldsR] at hs
  · rename_i hw
    simp only [hw] at hs
    obtain ⟨hf, b, hp⟩ := hs
    rw [← hdst]
    exact inv.step ok hsz hE hr he (Grows.refl w) (fun h => by rw [hf] at h; cases h) hp

theorem Inv.fin {n size : Nat} {E : List Ent} {w0 : World} {a0 : Act} {listed : Array Bool} {a : Act} {w : World} {K : Act → World → Prop} (_k : TabOk md ops n size) (hlen : E.length = n) (_hsz : a0.tmps.size = size)
    (inv : Inv md ops n E w0 a0 listed a w) (hdone : ∀ i, i < n → listed.getD i false = true) (h : Out w0 K w E [] a0) : K a w := by
  obtain ⟨V, B, hV, hB⟩ := inv.vals
  have go : ∀ (k : Nat) (F : List Ent) (fs : List Nat) (c : Act), k + F.length = n → (∀ j, F[j]? = E[k + j]?) → (∀ b ∈ fs, ∃ (j : Nat) (e : Ent), j < k ∧ E[j]? = some e ∧ e.fr = true ∧ b = B j) →
      c.defers = a0.defers → c.tmps.size = a0.tmps.size → (∀ t, (∃ (j : Nat) (e : Ent), j < k ∧ E[j]? = some e ∧ e.dst = some t) → c.tmps[t]? = a.tmps[t]?) →
      (∀ t, (∀ (j : Nat) (e : Ent), E[j]? = some e → e.dst ≠ some t) → c.tmps[t]? = a.tmps[t]?) → Out w0 K w F fs c → K a w := by
    intro k F
    induction F generalizing k with
    | nil =>
      intro fs c hk _ _ hd hs h1 h2 hfin
      have hk' : k = n := by simpa using hk
      have : c = a := by
        have ht : c.tmps = a.tmps := by
          apply Array.ext_getElem?
          intro t
          by_cases hx : ∃ (j : Nat) (e : Ent), j < k ∧ E[j]? = some e ∧ e.dst = some t
          · exact h1 t hx
          · refine h2 t fun j e hje hd => hx ⟨j, e, ?_, hje, hd⟩
            have := (List.getElem?_eq_some_iff.1 hje).1
            omega
        have hdd : c.defers = a.defers := by rw [hd, inv.defers]
        cases c; cases a; simp only at ht hdd; subst ht; subst hdd; rfl
      subst this
      exact hfin
    | cons e F ih =>
      intro fs c hk hF hfs hd hs h1 h2 hfin
      have he : E[k]? = some e := by have := hF 0; simpa using this.symm
      have hkn : k < n := by simp at hk; omega
      obtain ⟨hp, hf, hdst⟩ := hV k e (hdone k hkn) he
      have hfin' : Out w0 K w F (if e.fr then B k :: fs else fs) (c.put e.dst (V k)) := by
        obtain ⟨ed, efr, ep⟩ := e
        cases efr with
        | false => exact hfin (B k) (V k) hp
        | true =>
          refine hfin (B k) (V k) hp (hf rfl).1 (hf rfl).2 (Apart.of fun b' hb' => ?_)
          obtain ⟨j, ej, hjk, hej, hfj, rfl⟩ := hfs b' hb'
          exact hB k j _ ej (hdone k hkn) (hdone j (by omega)) he hej rfl hfj (by omega)
      refine ih (k + 1) _ _ (by simp at hk; omega) (fun j => by have := hF (j + 1); simpa [Nat.add_assoc, Nat.add_comm 1 j] using this) ?_ (by rw [put_defers]; exact hd) (by rw [put_tmps_size]; exact hs) ?_ ?_ hfin'
      · intro b hb
        cases hfr : e.fr with
        | false =>
          simp only [hfr] at hb
          obtain ⟨j, ej, hjk, r⟩ := hfs b hb
          exact ⟨j, ej, by omega, r⟩
        | true =>
          simp only [hfr, if_true, List.mem_cons] at hb
          rcases hb with rfl | hb
          · exact ⟨k, e, by omega, he, hfr, rfl⟩
          · obtain ⟨j, ej, hjk, r⟩ := hfs b hb
            exact ⟨j, ej, by omega, r⟩
      · intro t ⟨j, ej, hj, hej, hdj⟩
        by_cases hke : e.dst = some t
        · rw [hdst t hke, hke]
          refine put_tmps_same _ _ _ ?_
          rw [hs, ← inv.size]
          have := hdst t hke
          exact (Array.getElem?_eq_some_iff.1 this).1
        · rw [put_tmps_ne _ _ _ _ hke]
          refine h1 t ⟨j, ej, ?_, hej, hdj⟩
          by_cases hjk : j = k
          · subst hjk
            have : ej = e := Option.some.inj (hej.symm.trans he)
            subst this
            exact absurd hdj hke
          · omega
      · intro t ht
        rw [put_tmps_ne _ _ _ _ (ht k e he)]
        exact h2 t ht
  refine go 0 E [] a0 (by omega) (by simp) (by simp) rfl rfl (fun t ⟨j, _, hj, _⟩ => absurd hj (Nat.not_lt_zero _)) (fun t ht => ?_) h
  exact (inv.rest t fun i e _ he => ht i e he).symm

def left (n : Nat) (listed : Array Bool) : Nat := ((List.range n).filter fun i => !listed.getD i true).length

theorem filter_length_set (listed : Array Bool) (i : Nat) (h : listed.getD i true = false) : ∀ (l : List Nat), l.Nodup → i ∈ l →
    (l.filter fun j => !listed.getD j true).length = (l.filter fun j => !(listed.setIfInBounds i true).getD j true).length + 1
  | [], _, hm => by cases hm
  | x :: l, hn, hm => by
    have hn' := List.nodup_cons.1 hn
    have hsz : i < listed.size := by
      rcases Nat.lt_or_ge i listed.size with h' | h'
      · exact h'
      · simp [Array.getElem?_eq_none h'] at h
    by_cases hx : x = i
    · subst hx
      have hrest : ∀ j ∈ l, listed.getD j true = (listed.setIfInBounds x true).getD j true := fun j hj => (getD_set_ne true (fun e => hn'.1 (by rw [e]; exact hj))).symm
      have e1 : (l.filter fun j => !listed.getD j true) = (l.filter fun j => !(listed.setIfInBounds x true).getD j true) :=
        List.filter_congr fun j hj => by rw [hrest j hj]
      have e2 : (listed.setIfInBounds x true).getD x true = true := by simp [hsz]
      rw [List.filter_cons_of_pos (by simp [h]), List.filter_cons_of_neg (by simp [e2]), List.length_cons, e1]
    · have hm' : i ∈ l := by simpa [Ne.symm hx] using hm
      have ih := filter_length_set listed i h l hn'.2 hm'
      have e2 : (listed.setIfInBounds i true).getD x true = listed.getD x true := getD_set_ne true (fun e => hx e.symm)
      by_cases hb : listed.getD x true = true
      · rw [List.filter_cons_of_neg (by simp [hb]), List.filter_cons_of_neg (by simp [e2, hb])]; exact ih
      · rw [List.filter_cons_of_pos (by simpa using hb), List.filter_cons_of_pos (by rw [e2]; simpa using hb), List.length_cons, List.length_cons, ih]

theorem left_set {n : Nat} {listed : Array Bool} {i : Nat} (hi : i < n) (h : listed.getD i true = false) : left n listed = left n (listed.setIfInBounds i true) + 1 :=
  filter_length_set listed i h _ List.nodup_range (List.mem_range.2 hi)

theorem Inv.any {n size : Nat} {E : List Ent} {w0 : World} {a0 : Act} {Q : Exit → Act → World → Prop} (ok : TabOk md ops n size) (hsz : a0.tmps.size = size)
    (hE : ∀ i e, E[i]? = some e → i < n ∧ ∃ o, ops[i]? = some o ∧ e.dst = o.dst ∧ Up e.prop) (hlen : E.length = n)
    (hS : ∀ i o e, ops[i]? = some o → E[i]? = some e → ∀ a w, Grows w0 w → AgreeL a0 (E.take i).reverse a.eval w (o.looksAt ops) → Spec P ops o a w e.fr e.prop)
    (hfin : ∀ w, Grows w0 w → Out w0 (fun a w => wpList P ops Q (ops.toList.drop n) a w) w E [] a0) :
    ∀ (f : Nat) (listed : Array Bool) (a : Act) (w : World), Inv md ops n E w0 a0 listed a w → left n listed = f → wpAny P md ops Q (f + (ops.size - n)) listed a w := by
  intro f
  induction f with
  | zero =>
    intro listed a w inv hl
    have hdone' : ∀ i, i < n → listed.getD i true = true := fun i hi => by
      unfold left at hl
      have h0 : (List.range n).filter (fun i => !listed.getD i true) = [] := List.length_eq_zero_iff.1 hl
      have := List.filter_eq_nil_iff.1 h0 i (List.mem_range.2 hi)
      simpa using this
    have hdone : ∀ i, i < n → listed.getD i false = true := fun i hi => by
      have hs : i < listed.size := by rw [inv.head.size]; exact Nat.lt_of_lt_of_le hi ok.le
      have := hdone' i hi
      simpa [hs] using this
    have hlisted : listed = Array.ofFn (n := ops.size) fun i => decide (i.val < n) := by
      apply Array.ext (by simp [inv.head.size])
      intro i h1 h2
      simp only [Array.getElem_ofFn]
      by_cases hi : i < n
      · have := hdone i hi
        simpa [h1, hi] using this
      · have := inv.head.tail i (by omega) (by rw [← inv.head.size]; exact h1)
        simpa [h1, hi] using this
    have hw := inv.fin ok hlen hsz hdone (hfin w inv.grows)
    have hdl : (ops.toList.drop n).length = ops.size - n := by simp
    have := wpAny_of_seq (md := md) (Q' := Q) (ops.toList.drop n) n listed a w (fun j => by simp [List.getElem?_drop]) (by rw [hdl, hlisted]; exact ok.seq) hw
    rwa [hdl, ← Nat.zero_add (ops.size - n)] at this
  | succ f ih =>
    intro listed a w inv hl
    have hex : ∃ i, i < n ∧ listed.getD i true = false := by
      refine Classical.byContradiction fun hno => ?_
      have : left n listed = 0 := by
        unfold left
        rw [List.length_eq_zero_iff, List.filter_eq_nil_iff]
        intro i hi
        have hi' := List.mem_range.1 hi
        cases hx : listed.getD i true with
        | true => simp
        | false => exact absurd ⟨i, hi', hx⟩ hno
      omega
    have hne : Region.ready md ops listed ≠ [] := by
      obtain ⟨i0, hi0, hu0⟩ := hex
      have least : ∀ m i, i ≤ m → i < n → listed.getD i true = false → Region.ready md ops listed ≠ [] := by
        intro m
        induction m with
        | zero =>
          intro i him hin hun
          have hi0 : i = 0 := by omega
          subst hi0
          have hs : 0 < ops.size := Nat.lt_of_lt_of_le hin ok.le
          intro hnil
          have : 0 ∈ Region.ready md ops listed := mem_ready.2 ⟨hun, ops[0], Array.getElem?_eq_getElem hs, fun e he hbi => absurd (ok.back 0 _ (Array.getElem?_eq_getElem hs) e he hbi) (Nat.not_lt_zero _)⟩
          rw [hnil] at this; cases this
        | succ m ihm =>
          intro i him hin hun
          have hs : i < ops.size := Nat.lt_of_lt_of_le hin ok.le
          by_cases hall : ∀ j, j < i → listed.getD j false = true
          · intro hnil
            have : i ∈ Region.ready md ops listed := mem_ready.2 ⟨hun, ops[i], Array.getElem?_eq_getElem hs, fun e he hbi => hall _ (ok.back i _ (Array.getElem?_eq_getElem hs) e he hbi)⟩
            rw [hnil] at this; cases this
          · have hall' : ∃ j, j < i ∧ listed.getD j false ≠ true := Classical.byContradiction fun hno => hall fun j hj => Classical.byContradiction fun hx => hno ⟨j, hj, hx⟩
            obtain ⟨j, hj, hjn⟩ := hall'
            have hjs : j < listed.size := by rw [inv.head.size]; omega
            exact ihm j (by omega) (by omega) (getD_in hjs (by simpa using hjn))
      exact least i0 i0 (Nat.le_refl _) hi0 hu0
    have hbelow : ∀ i ∈ Region.ready md ops listed, i < n := by
      intro i hi
      obtain ⟨i0, hi0, hu0⟩ := hex
      rcases ok.sink with hs | ⟨hs, hc⟩
      · obtain ⟨_, o, ho, _⟩ := mem_ready.1 hi
        rw [hs]; exact (Array.getElem?_eq_some_iff.1 ho).1
      · rcases Nat.lt_or_ge i n with h | h
        · exact h
        · have hi' : i < ops.size := by
            obtain ⟨_, o, ho, _⟩ := mem_ready.1 hi
            exact (Array.getElem?_eq_some_iff.1 ho).1
          exact absurd hi (tail_waits hs hc (by omega) inv.head _ i0 rfl hi0 hu0 i h)
    rw [show f + 1 + (ops.size - n) = (f + (ops.size - n)) + 1 by omega]
    refine ⟨fun h => absurd h hne, fun i hi => ?_⟩
    have hin := hbelow i hi
    have hun := (mem_ready.1 hi).1
    exact wpOp_mono (fun a' w' inv' => ih _ a' w' inv' (by have := left_set hin hun; omega)) (inv.wpOp ok hsz hE hlen hS hi hin)

/-- The region, by the table: the first n operations in whatever order, the rest behind them in their order. -/
theorem wp_region_tab {id : Nat} {Q : Exit → Act → World → Prop} {a : Act} {w : World} {l : List Oper} (n : Nat) (hm : P.follows .mixedOrders = true)
    (hB : tabB .any l.toArray n a.tmps.size = true)
    (h : ∀ w0, w0.heap = w.heap → Grows w w0 → Grows w0 w → wpTab P l.toArray w0 a (fun E => ∀ w', Grows w0 w' → Out w0 (fun a' w'' => wpList P l.toArray Q (l.drop n) a' w'') w' E [] a) [] (l.take n)) :
    (Code.region id l.toArray true).wp P Q a w := by
  have ok := TabOk.of hB
  refine wp_region_any hm ?_
  have h0 := h { w with drawn := w.drawn + 1 } rfl ⟨rfl, rfl, rfl, Nat.le_refl _, fun _ _ => rfl⟩ ⟨rfl, rfl, rfl, Nat.le_refl _, fun _ _ => rfl⟩
  generalize ({ w with drawn := w.drawn + 1 } : World) = w0 at h0
  obtain ⟨F, hl, hF, hK⟩ := wpTab_spec _ _ h0
  simp only [List.append_nil, List.reverse_nil, List.nil_append] at hF hK
  have hle : n ≤ l.length := by simpa using ok.le
  have hlen : F.length = n := by rw [hl]; simp; omega
  have hget : ∀ i o, i < n → l.toArray[i]? = some o → (l.take n)[i]? = some o := fun i o hi ho => by
    rw [List.getElem?_take_of_lt hi]; simpa using ho
  have hE : ∀ i e, F[i]? = some e → i < n ∧ ∃ o, l.toArray[i]? = some o ∧ e.dst = o.dst ∧ Up e.prop := fun i e he => by
    have hin : i < n := by have := (List.getElem?_eq_some_iff.1 he).1; omega
    have hs : i < l.toArray.size := Nat.lt_of_lt_of_le hin ok.le
    obtain ⟨e', h1, h2, h3, _⟩ := hF i _ (hget i _ hin (Array.getElem?_eq_getElem hs))
    have : e' = e := Option.some.inj (h1.symm.trans he)
    subst this
    exact ⟨hin, _, Array.getElem?_eq_getElem hs, h2, h3⟩
  have hS : ∀ i o e, l.toArray[i]? = some o → F[i]? = some e → ∀ a' w', Grows w0 w' → AgreeL a (F.take i).reverse a'.eval w' (o.looksAt l.toArray) → Spec P l.toArray o a' w' e.fr e.prop := fun i o e ho he => by
    obtain ⟨hin, _⟩ := hE i e he
    obtain ⟨e', h1, _, _, h4⟩ := hF i o (hget i o hin ho)
    have : e' = e := Option.some.inj (h1.symm.trans he)
    subst this
    exact h4
  have inv0 : Inv .any l.toArray n F w0 a (Array.replicate l.toArray.size false) a w0 := by
    refine ⟨⟨by simp, fun j oj _ hx => (by rw [getD_replicate_false] at hx; cases hx), fun t _ ht => getD_in (by simpa using ht) (getD_replicate_false _ _)⟩, Grows.refl _, rfl, rfl, ⟨fun _ => undef, fun _ => 0, ?_, ?_⟩, fun t _ => rfl⟩
    · intro i e hx; rw [getD_replicate_false] at hx; cases hx
    · intro i j ei ej hx; rw [getD_replicate_false] at hx; cases hx
  have hleft : left n (Array.replicate l.toArray.size false) = n := by
    unfold left
    rw [List.filter_eq_self.2, List.length_range]
    intro i hi
    have : i < l.toArray.size := Nat.lt_of_lt_of_le (List.mem_range.1 hi) ok.le
    have h1 := getD_in (listed := Array.replicate l.toArray.size false) (by simpa using this) (getD_replicate_false _ i)
    rw [h1]; rfl
  have := Inv.any (Q := Q) ok rfl hE hlen hS (by simpa using hK) n _ a w0 inv0 hleft
  rwa [show n + (l.toArray.size - n) = l.toArray.size by have := ok.le; omega] at this

end

/-! ### The steps -/
section
variable {P : Program} {ops : Array Oper} {w0 : World} {a0 : Act} {K : List Ent → Prop} {E : List Ent} {o : Oper} {rest : List Oper}

theorem wanted_none {y : Nat → Option Bool} (h : o.guard = none) : Region.wanted o y = true := by unfold Region.wanted; rw [h]
theorem wanted_some {g : Nat} {want b : Bool} {t : Tmp} {a : Act} (h : o.guard = some (g, want)) (hd : (ops[g]?).bind (·.dst) = some t) (hv : a.eval (.tmp t) = .bool b) (hb : b = want) :
    Region.wanted o (yielded ops a.tmps) = true := by
  unfold Region.wanted yielded
  rw [h]
  simp only [hd, Option.bind_some]
  simp only [Act.eval, Array.getD_eq_getD_getElem?] at hv
  cases ht : a.tmps[t]? with
  | none => rw [ht] at hv; simp [undef] at hv
  | some x =>
    rw [ht] at hv
    simp only [Option.getD_some] at hv
    subst hv; subst hb
    simp
theorem unwanted_some {g : Nat} {want b : Bool} {t : Tmp} {a : Act} (h : o.guard = some (g, want)) (hd : (ops[g]?).bind (·.dst) = some t) (hv : a.eval (.tmp t) = .bool b) (hb : b = !want) :
    Region.wanted o (yielded ops a.tmps) = false := by
  unfold Region.wanted yielded
  rw [h]
  simp only [hd, Option.bind_some]
  simp only [Act.eval, Array.getD_eq_getD_getElem?] at hv
  cases ht : a.tmps[t]? with
  | none => rw [ht] at hv; simp [undef] at hv
  | some x =>
    rw [ht] at hv
    simp only [Option.getD_some] at hv
    subst hv; subst hb
    cases want <;> rfl

/-- What every frame makes of constants. -/
structure Env (r : Operand → Value) : Prop where
  const : ∀ v, r (.const v) = v
  glob : ∀ g, r (.global g) = .pointer (some ⟨g, 0, none⟩)
  func : ∀ f, r (.func f) = .func (.func f) #[] #[]
theorem Env.of (a : Act) : Env a.eval := ⟨fun _ => rfl, fun _ => rfl, fun _ => rfl⟩
/-- The operation is carried out (or is not), as its guard has it. -/
def Guard (ops : Array Oper) (o : Oper) (r : Operand → Value) (yes : Bool) : Prop :=
  match o.guard with
  | none => yes = true
  | some (g, want) => match (ops[g]?).bind (·.dst) with
    | some t => ∃ b, r (.tmp t) = .bool b ∧ (b == want) = yes
    | none => False
theorem Guard.wanted {a : Act} (h : Guard ops o a.eval true) : Region.wanted o (yielded ops a.tmps) = true := by
  unfold Guard at h
  split at h
  · rename_i hg; exact wanted_none hg
  · rename_i g want hg
    split at h
    · rename_i t ht
      obtain ⟨b, hb, hw⟩ := h
      exact wanted_some hg ht hb (by simpa using hw)
    · exact h.elim
theorem Guard.unwanted {a : Act} (h : Guard ops o a.eval false) : Region.wanted o (yielded ops a.tmps) = false := by
  unfold Guard at h
  split at h
  · cases h
  · rename_i g want hg
    split at h
    · rename_i t ht
      obtain ⟨b, hb, hw⟩ := h
      exact unwanted_some hg ht hb (by cases b <;> cases want <;> simp_all)
    · exact h.elim

theorem up_const (v : Value) : Up (fun _ x _ => x = v) := fun _ _ _ _ h _ => h

theorem tab_val (v : Value) (hs : ∀ r w, Env r → Grows w0 w → AgreeL a0 E r w (o.looksAt ops) → Guard ops o r true ∧ (execOp r o).run P w = .ok (.value v) w)
    (hr : wpTab P ops w0 a0 K (⟨o.dst, false, fun _ x _ => x = v⟩ :: E) rest) : wpTab P ops w0 a0 K E (o :: rest) :=
  ⟨false, _, up_const v, fun a w hg hA => by
    obtain ⟨h1, h2⟩ := hs a.eval w (Env.of a) hg hA
    unfold Spec Holds
    rw [if_pos h1.wanted, h2]
    exact ⟨Grows.refl _, 0, (fun h => by cases h), rfl⟩, hr⟩

theorem tab_skip (hs : ∀ r w, Env r → Grows w0 w → AgreeL a0 E r w (o.looksAt ops) → Guard ops o r false)
    (hr : wpTab P ops w0 a0 K (⟨o.dst, false, fun _ x _ => x = undef⟩ :: E) rest) : wpTab P ops w0 a0 K E (o :: rest) :=
  ⟨false, _, up_const undef, fun a w hg hA => by
    have h1 := (hs a.eval w (Env.of a) hg hA).unwanted
    unfold Spec
    rw [h1]
    exact ⟨rfl, 0, rfl⟩, hr⟩

/-- A call, its arguments known, its answer plain. -/
theorem tab_call {f : FuncId} {args : Array Value} {v : Value} (hc : ∀ w, Grows w0 w → Calls P f args w (fun e w' => e = .returned v ∧ Grows w w'))
    (hs : ∀ r w, Env r → Grows w0 w → AgreeL a0 E r w (o.looksAt ops) → Guard ops o r true ∧ (execOp r o).run P w = .ok (.enter f args) w)
    (hr : wpTab P ops w0 a0 K (⟨o.dst, false, fun _ x _ => x = v⟩ :: E) rest) : wpTab P ops w0 a0 K E (o :: rest) :=
  ⟨false, _, up_const v, fun a w hg hA => by
    obtain ⟨h1, h2⟩ := hs a.eval w (Env.of a) hg hA
    unfold Spec Holds
    rw [if_pos h1.wanted, h2]
    exact ⟨Grows.refl _, (hc w hg).mono fun e w' ⟨he, hw⟩ => ⟨v, 0, he, hw, (fun h => by cases h), rfl⟩⟩, hr⟩

/-- Anything else that is carried out. -/
theorem tab_gen (fr : Bool) (p : Nat → Value → World → Prop) (hup : Up p)
    (hs : ∀ r w, Env r → Grows w0 w → AgreeL a0 E r w (o.looksAt ops) → Guard ops o r true ∧ HoldsR P w fr p ((execOp r o).run P w))
    (hr : wpTab P ops w0 a0 K (⟨o.dst, fr, p⟩ :: E) rest) : wpTab P ops w0 a0 K E (o :: rest) :=
  ⟨fr, p, hup, fun a w hg hA => by
    obtain ⟨h1, h2⟩ := hs a.eval w (Env.of a) hg hA
    unfold Spec Holds
    rw [if_pos h1.wanted]; exact h2, hr⟩

/-- A new block that holds this. -/
def BlockP (obj : Obj) (mk : Nat → Value) : Nat → Value → World → Prop := fun b v w => v = mk b ∧ w.heap[b]? = some obj
theorem Grows.block {w w' : World} (h : Grows w w') {b : Nat} {x : Obj} (hb : w.heap[b]? = some x) : w'.heap[b]? = some x := by
  have hlt : b < w.heap.size := (Array.getElem?_eq_some_iff.1 hb).1
  rw [Below.block h b hlt]; exact hb
theorem up_block (obj : Obj) (mk : Nat → Value) : Up (BlockP obj mk) := fun _ _ _ _ h hg => ⟨h.1, hg.block h.2⟩
theorem Grows.alloc (w : World) (x : Obj) : Grows w (w.alloc x) := (Below.refl _ _).alloc (Nat.le_refl _) x

theorem tab_new (obj : Obj) (mk : Nat → Value)
    (hs : ∀ r w, Env r → Grows w0 w → AgreeL a0 E r w (o.looksAt ops) → Guard ops o r true ∧ (execOp r o).run P w = .ok (.value (mk w.heap.size)) (w.alloc obj))
    (hr : wpTab P ops w0 a0 K (⟨o.dst, true, BlockP obj mk⟩ :: E) rest) : wpTab P ops w0 a0 K E (o :: rest) :=
  tab_gen true _ (up_block obj mk) (fun r w hr hg hA => by
    obtain ⟨h1, h2⟩ := hs r w hr hg hA
    refine ⟨h1, ?_⟩
    rw [h2]
    exact ⟨Grows.alloc _ _, w.heap.size, fun _ => ⟨Nat.le_refl _, by simp⟩, rfl, by show (w.heap.push obj)[w.heap.size]? = some obj; simp⟩) hr

/-- A call whose argument lies in memory that the region made. -/
theorem tab_callP {f : FuncId} {v : Value} (hs : ∀ r w, Env r → Grows w0 w → AgreeL a0 E r w (o.looksAt ops) → Guard ops o r true ∧
      ∃ args, (execOp r o).run P w = .ok (.enter f args) w ∧ Calls P f args w (fun e w' => e = .returned v ∧ Grows w w'))
    (hr : wpTab P ops w0 a0 K (⟨o.dst, false, fun _ x _ => x = v⟩ :: E) rest) : wpTab P ops w0 a0 K E (o :: rest) :=
  ⟨false, _, up_const v, fun a w hg hA => by
    obtain ⟨h1, args, h2, hc⟩ := hs a.eval w (Env.of a) hg hA
    unfold Spec Holds
    rw [if_pos h1.wanted, h2]
    exact ⟨Grows.refl _, hc.mono fun e w' ⟨he, hw⟩ => ⟨v, 0, he, hw, (fun h => by cases h), rfl⟩⟩, hr⟩

theorem tab_end (h : K E.reverse) : wpTab P ops w0 a0 K E [] := h

end

theorem Grows.al {w a : World} (h : Grows w a) (x : Obj) : Grows w (a.alloc x) := Below.alloc h h.size x
theorem Grows.st {w a : World} (h : Grows w a) {p : Addr} (hp : w.heap.size ≤ p.block) (u : Value) : Grows w (a.setCell p u) := Below.setCell h hp u
theorem Grows.dr {w a : World} (h : Grows w a) : Grows w a.drew := Below.drew h

/-- The call hands back v; what was there is as it was. -/
def Ret (v : Value) (w : World) (e : Ending) (w' : World) : Prop := e = .returned v ∧ Grows w w'
theorem Ret.mk {v : Value} {w : World} {e : Ending} {w' : World} (h : e = .returned v) (hg : Grows w w') : Ret v w e w' := ⟨h, hg⟩

/-- A block of the call's own: two cells. -/
theorem cells2 {w : World} {b : Nat} {x y : Value} {T : TypeId} (h : w.heap[b]? = some (.cells #[x, y] T (0, 0))) :
    w.cell? ⟨b, 0, none⟩ = some x ∧ w.cell? ⟨b, 1, none⟩ = some y ∧ w.frozen? ⟨b, 0, none⟩ = false ∧ w.frozen? ⟨b, 1, none⟩ = false := by
  refine ⟨?_, ?_, ?_, ?_⟩ <;> simp [World.cell?, World.frozen?, h]

theorem Grows.old {w w' : World} (h : Grows w w') : (∀ b o, b < w.heap.size → w'.cell? ⟨b, o, none⟩ = w.cell? ⟨b, o, none⟩) ∧ (∀ b o, b < w.heap.size → w'.frozen? ⟨b, o, none⟩ = w.frozen? ⟨b, o, none⟩) :=
  ⟨fun b o hb => Below.cell h (p := ⟨b, o, none⟩) hb, fun b o hb => Below.frozen h (p := ⟨b, o, none⟩) hb⟩
theorem heap_new (w : World) (x : Obj) (n : Nat) (h : n = w.heap.size) : (w.alloc x).heap[n]? = some x := by
  subst h; show (w.heap.push x)[w.heap.size]? = some x; simp

theorem box1 {w w1 : World} {x1 y1 : Value} {T1 : TypeId} (h : Grows (w.alloc (.cells #[x1, y1] T1)) w1) :
    w1.cell? ⟨w.heap.size, 0, none⟩ = some x1 ∧ w1.cell? ⟨w.heap.size, 1, none⟩ = some y1 := by
  have h1 : (w.alloc (.cells #[x1, y1] T1)).heap[w.heap.size]? = some (.cells #[x1, y1] T1 (0, 0)) := by
    exact heap_new _ _ _ (by simp only [World.size_alloc])
  have c1 := cells2 (Grows.block h h1)
  exact ⟨c1.1, c1.2.1⟩

theorem box2 {w w1 : World} {x1 y1 x2 y2 : Value} {T1 T2 : TypeId} (h : Grows ((w.alloc (.cells #[x1, y1] T1)).alloc (.cells #[x2, y2] T2)) w1) :
    w1.cell? ⟨w.heap.size, 0, none⟩ = some x1 ∧ w1.cell? ⟨w.heap.size, 1, none⟩ = some y1 ∧ w1.cell? ⟨w.heap.size + 1, 0, none⟩ = some x2 ∧ w1.cell? ⟨w.heap.size + 1, 1, none⟩ = some y2 := by
  have h1 : ((w.alloc (.cells #[x1, y1] T1)).alloc (.cells #[x2, y2] T2)).heap[w.heap.size]? = some (.cells #[x1, y1] T1 (0, 0)) := by
    rw [show (World.alloc _ _).heap[_]? = _ from Below.heap_alloc _ _ _ (by simp only [World.size_alloc]; omega)]
    exact heap_new _ _ _ (by simp only [World.size_alloc])
  have c1 := cells2 (Grows.block h h1)
  have h2 : ((w.alloc (.cells #[x1, y1] T1)).alloc (.cells #[x2, y2] T2)).heap[w.heap.size + 1]? = some (.cells #[x2, y2] T2 (0, 0)) := by
    exact heap_new _ _ _ (by simp only [World.size_alloc])
  have c2 := cells2 (Grows.block h h2)
  exact ⟨c1.1, c1.2.1, c2.1, c2.2.1⟩

theorem box3 {w w1 : World} {x1 y1 x2 y2 x3 y3 : Value} {T1 T2 T3 : TypeId} (h : Grows (((w.alloc (.cells #[x1, y1] T1)).alloc (.cells #[x2, y2] T2)).alloc (.cells #[x3, y3] T3)) w1) :
    w1.cell? ⟨w.heap.size, 0, none⟩ = some x1 ∧ w1.cell? ⟨w.heap.size, 1, none⟩ = some y1 ∧ w1.cell? ⟨w.heap.size + 1, 0, none⟩ = some x2 ∧ w1.cell? ⟨w.heap.size + 1, 1, none⟩ = some y2 ∧ w1.cell? ⟨w.heap.size + 1 + 1, 0, none⟩ = some x3 ∧ w1.cell? ⟨w.heap.size + 1 + 1, 1, none⟩ = some y3 := by
  have h1 : (((w.alloc (.cells #[x1, y1] T1)).alloc (.cells #[x2, y2] T2)).alloc (.cells #[x3, y3] T3)).heap[w.heap.size]? = some (.cells #[x1, y1] T1 (0, 0)) := by
    rw [show (World.alloc _ _).heap[_]? = _ from Below.heap_alloc _ _ _ (by simp only [World.size_alloc]; omega)]
    rw [show (World.alloc _ _).heap[_]? = _ from Below.heap_alloc _ _ _ (by simp only [World.size_alloc]; omega)]
    exact heap_new _ _ _ (by simp only [World.size_alloc])
  have c1 := cells2 (Grows.block h h1)
  have h2 : (((w.alloc (.cells #[x1, y1] T1)).alloc (.cells #[x2, y2] T2)).alloc (.cells #[x3, y3] T3)).heap[w.heap.size + 1]? = some (.cells #[x2, y2] T2 (0, 0)) := by
    rw [show (World.alloc _ _).heap[_]? = _ from Below.heap_alloc _ _ _ (by simp only [World.size_alloc]; omega)]
    exact heap_new _ _ _ (by simp only [World.size_alloc])
  have c2 := cells2 (Grows.block h h2)
  have h3 : (((w.alloc (.cells #[x1, y1] T1)).alloc (.cells #[x2, y2] T2)).alloc (.cells #[x3, y3] T3)).heap[w.heap.size + 1 + 1]? = some (.cells #[x3, y3] T3 (0, 0)) := by
    exact heap_new _ _ _ (by simp only [World.size_alloc])
  have c3 := cells2 (Grows.block h h3)
  exact ⟨c1.1, c1.2.1, c2.1, c2.2.1, c3.1, c3.2.1⟩

theorem box4 {w w1 : World} {x1 y1 x2 y2 x3 y3 x4 y4 : Value} {T1 T2 T3 T4 : TypeId} (h : Grows ((((w.alloc (.cells #[x1, y1] T1)).alloc (.cells #[x2, y2] T2)).alloc (.cells #[x3, y3] T3)).alloc (.cells #[x4, y4] T4)) w1) :
    w1.cell? ⟨w.heap.size, 0, none⟩ = some x1 ∧ w1.cell? ⟨w.heap.size, 1, none⟩ = some y1 ∧ w1.cell? ⟨w.heap.size + 1, 0, none⟩ = some x2 ∧ w1.cell? ⟨w.heap.size + 1, 1, none⟩ = some y2 ∧ w1.cell? ⟨w.heap.size + 1 + 1, 0, none⟩ = some x3 ∧ w1.cell? ⟨w.heap.size + 1 + 1, 1, none⟩ = some y3 ∧ w1.cell? ⟨w.heap.size + 1 + 1 + 1, 0, none⟩ = some x4 ∧ w1.cell? ⟨w.heap.size + 1 + 1 + 1, 1, none⟩ = some y4 := by
  have h1 : ((((w.alloc (.cells #[x1, y1] T1)).alloc (.cells #[x2, y2] T2)).alloc (.cells #[x3, y3] T3)).alloc (.cells #[x4, y4] T4)).heap[w.heap.size]? = some (.cells #[x1, y1] T1 (0, 0)) := by
    rw [show (World.alloc _ _).heap[_]? = _ from Below.heap_alloc _ _ _ (by simp only [World.size_alloc]; omega)]
    rw [show (World.alloc _ _).heap[_]? = _ from Below.heap_alloc _ _ _ (by simp only [World.size_alloc]; omega)]
    rw [show (World.alloc _ _).heap[_]? = _ from Below.heap_alloc _ _ _ (by simp only [World.size_alloc]; omega)]
    exact heap_new _ _ _ (by simp only [World.size_alloc])
  have c1 := cells2 (Grows.block h h1)
  have h2 : ((((w.alloc (.cells #[x1, y1] T1)).alloc (.cells #[x2, y2] T2)).alloc (.cells #[x3, y3] T3)).alloc (.cells #[x4, y4] T4)).heap[w.heap.size + 1]? = some (.cells #[x2, y2] T2 (0, 0)) := by
    rw [show (World.alloc _ _).heap[_]? = _ from Below.heap_alloc _ _ _ (by simp only [World.size_alloc]; omega)]
    rw [show (World.alloc _ _).heap[_]? = _ from Below.heap_alloc _ _ _ (by simp only [World.size_alloc]; omega)]
    exact heap_new _ _ _ (by simp only [World.size_alloc])
  have c2 := cells2 (Grows.block h h2)
  have h3 : ((((w.alloc (.cells #[x1, y1] T1)).alloc (.cells #[x2, y2] T2)).alloc (.cells #[x3, y3] T3)).alloc (.cells #[x4, y4] T4)).heap[w.heap.size + 1 + 1]? = some (.cells #[x3, y3] T3 (0, 0)) := by
    rw [show (World.alloc _ _).heap[_]? = _ from Below.heap_alloc _ _ _ (by simp only [World.size_alloc]; omega)]
    exact heap_new _ _ _ (by simp only [World.size_alloc])
  have c3 := cells2 (Grows.block h h3)
  have h4 : ((((w.alloc (.cells #[x1, y1] T1)).alloc (.cells #[x2, y2] T2)).alloc (.cells #[x3, y3] T3)).alloc (.cells #[x4, y4] T4)).heap[w.heap.size + 1 + 1 + 1]? = some (.cells #[x4, y4] T4 (0, 0)) := by
    exact heap_new _ _ _ (by simp only [World.size_alloc])
  have c4 := cells2 (Grows.block h h4)
  exact ⟨c1.1, c1.2.1, c2.1, c2.2.1, c3.1, c3.2.1, c4.1, c4.2.1⟩

theorem box5 {w w1 : World} {x1 y1 x2 y2 x3 y3 x4 y4 x5 y5 : Value} {T1 T2 T3 T4 T5 : TypeId} (h : Grows (((((w.alloc (.cells #[x1, y1] T1)).alloc (.cells #[x2, y2] T2)).alloc (.cells #[x3, y3] T3)).alloc (.cells #[x4, y4] T4)).alloc (.cells #[x5, y5] T5)) w1) :
    w1.cell? ⟨w.heap.size, 0, none⟩ = some x1 ∧ w1.cell? ⟨w.heap.size, 1, none⟩ = some y1 ∧ w1.cell? ⟨w.heap.size + 1, 0, none⟩ = some x2 ∧ w1.cell? ⟨w.heap.size + 1, 1, none⟩ = some y2 ∧ w1.cell? ⟨w.heap.size + 1 + 1, 0, none⟩ = some x3 ∧ w1.cell? ⟨w.heap.size + 1 + 1, 1, none⟩ = some y3 ∧ w1.cell? ⟨w.heap.size + 1 + 1 + 1, 0, none⟩ = some x4 ∧ w1.cell? ⟨w.heap.size + 1 + 1 + 1, 1, none⟩ = some y4 ∧ w1.cell? ⟨w.heap.size + 1 + 1 + 1 + 1, 0, none⟩ = some x5 ∧ w1.cell? ⟨w.heap.size + 1 + 1 + 1 + 1, 1, none⟩ = some y5 := by
  have h1 : (((((w.alloc (.cells #[x1, y1] T1)).alloc (.cells #[x2, y2] T2)).alloc (.cells #[x3, y3] T3)).alloc (.cells #[x4, y4] T4)).alloc (.cells #[x5, y5] T5)).heap[w.heap.size]? = some (.cells #[x1, y1] T1 (0, 0)) := by
    rw [show (World.alloc _ _).heap[_]? = _ from Below.heap_alloc _ _ _ (by simp only [World.size_alloc]; omega)]
    rw [show (World.alloc _ _).heap[_]? = _ from Below.heap_alloc _ _ _ (by simp only [World.size_alloc]; omega)]
    rw [show (World.alloc _ _).heap[_]? = _ from Below.heap_alloc _ _ _ (by simp only [World.size_alloc]; omega)]
    rw [show (World.alloc _ _).heap[_]? = _ from Below.heap_alloc _ _ _ (by simp only [World.size_alloc]; omega)]
    exact heap_new _ _ _ (by simp only [World.size_alloc])
  have c1 := cells2 (Grows.block h h1)
  have h2 : (((((w.alloc (.cells #[x1, y1] T1)).alloc (.cells #[x2, y2] T2)).alloc (.cells #[x3, y3] T3)).alloc (.cells #[x4, y4] T4)).alloc (.cells #[x5, y5] T5)).heap[w.heap.size + 1]? = some (.cells #[x2, y2] T2 (0, 0)) := by
    rw [show (World.alloc _ _).heap[_]? = _ from Below.heap_alloc _ _ _ (by simp only [World.size_alloc]; omega)]
    rw [show (World.alloc _ _).heap[_]? = _ from Below.heap_alloc _ _ _ (by simp only [World.size_alloc]; omega)]
    rw [show (World.alloc _ _).heap[_]? = _ from Below.heap_alloc _ _ _ (by simp only [World.size_alloc]; omega)]
    exact heap_new _ _ _ (by simp only [World.size_alloc])
  have c2 := cells2 (Grows.block h h2)
  have h3 : (((((w.alloc (.cells #[x1, y1] T1)).alloc (.cells #[x2, y2] T2)).alloc (.cells #[x3, y3] T3)).alloc (.cells #[x4, y4] T4)).alloc (.cells #[x5, y5] T5)).heap[w.heap.size + 1 + 1]? = some (.cells #[x3, y3] T3 (0, 0)) := by
    rw [show (World.alloc _ _).heap[_]? = _ from Below.heap_alloc _ _ _ (by simp only [World.size_alloc]; omega)]
    rw [show (World.alloc _ _).heap[_]? = _ from Below.heap_alloc _ _ _ (by simp only [World.size_alloc]; omega)]
    exact heap_new _ _ _ (by simp only [World.size_alloc])
  have c3 := cells2 (Grows.block h h3)
  have h4 : (((((w.alloc (.cells #[x1, y1] T1)).alloc (.cells #[x2, y2] T2)).alloc (.cells #[x3, y3] T3)).alloc (.cells #[x4, y4] T4)).alloc (.cells #[x5, y5] T5)).heap[w.heap.size + 1 + 1 + 1]? = some (.cells #[x4, y4] T4 (0, 0)) := by
    rw [show (World.alloc _ _).heap[_]? = _ from Below.heap_alloc _ _ _ (by simp only [World.size_alloc]; omega)]
    exact heap_new _ _ _ (by simp only [World.size_alloc])
  have c4 := cells2 (Grows.block h h4)
  have h5 : (((((w.alloc (.cells #[x1, y1] T1)).alloc (.cells #[x2, y2] T2)).alloc (.cells #[x3, y3] T3)).alloc (.cells #[x4, y4] T4)).alloc (.cells #[x5, y5] T5)).heap[w.heap.size + 1 + 1 + 1 + 1]? = some (.cells #[x5, y5] T5 (0, 0)) := by
    exact heap_new _ _ _ (by simp only [World.size_alloc])
  have c5 := cells2 (Grows.block h h5)
  exact ⟨c1.1, c1.2.1, c2.1, c2.2.1, c3.1, c3.2.1, c4.1, c4.2.1, c5.1, c5.2.1⟩

theorem set2 {w : World} {b : Nat} {u v x y : Value} {T : TypeId} (h : w.heap[b]? = some (.cells #[u, v] T (0, 0))) :
    ((w.setCell ⟨b, 0, none⟩ x).setCell ⟨b, 1, none⟩ y).heap[b]? = some (.cells #[x, y] T (0, 0)) := by
  simp [World.setCell, Array.getElem?_modify, h]
theorem set2o {w : World} {b k : Nat} {x y : Value} (h : k ≠ b) : ((w.setCell ⟨b, 0, none⟩ x).setCell ⟨b, 1, none⟩ y).heap[k]? = w.heap[k]? := by
  rw [Below.heap_setCell _ _ _ _ h, Below.heap_setCell _ _ _ _ h]

end Go.Tab
