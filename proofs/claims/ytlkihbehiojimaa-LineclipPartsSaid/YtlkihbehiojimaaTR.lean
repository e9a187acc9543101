/-
  A region that draws its order, by a table, whose operations may write into rows of the call's own: the table's law over any relation of worlds (R) that goes on.
-/
import Derived.Test.YtlkihbehiojimaaRB
namespace Go.TabR
open Go Go.RowKit Go.Tab

/-- What is asked of the relation: N: the blocks from here on are new, and stay. -/
structure Pre (N : Nat) (R : World → World → Prop) : Prop where
  refl : ∀ w, R w w
  trans : ∀ {a b c}, R a b → R b c → R a c
  size : ∀ {a b}, R a b → a.heap.size ≤ b.heap.size
  of : ∀ {a b}, Grows a b → R a b
  new : ∀ {a b}, R a b → ∀ k x, N ≤ k → a.heap[k]? = some x → b.heap[k]? = some x

section
variable {N : Nat} {R : World → World → Prop} {P : Program} {ops : Array Oper} {md : Region.Mode}

def Up (R : World → World → Prop) (p : Nat → Value → World → Prop) : Prop := ∀ b v w w', p b v w → R w w' → p b v w'

def HoldsR (R : World → World → Prop) (P : Program) (w : World) (fr : Bool) (p : Nat → Value → World → Prop) : Result Next → Prop
  | .ok (.value v) w' => R w w' ∧ ∃ b, Born fr w w' b ∧ p b v w'
  | .ok .skip w' => R w w' ∧ ∃ b, Born fr w w' b ∧ p b undef w'
  | .ok (.enter f args) w' => R w w' ∧ Calls P f args w' (fun e w'' => ∃ v b, e = .returned v ∧ R w' w'' ∧ Born fr w w'' b ∧ p b v w'')
  | _ => False

def Holds (R : World → World → Prop) (P : Program) (o : Oper) (a : Act) (w : World) (fr : Bool) (p : Nat → Value → World → Prop) : Prop :=
  HoldsR R P w fr p ((execOp a.eval o).run P w)

def Spec (R : World → World → Prop) (P : Program) (ops : Array Oper) (o : Oper) (a : Act) (w : World) (fr : Bool) (p : Nat → Value → World → Prop) : Prop :=
  if Region.wanted o (yielded ops a.tmps) then Holds R P o a w fr p else fr = false ∧ ∃ b, p b undef w

def wpTab (R : World → World → Prop) (P : Program) (ops : Array Oper) (w0 : World) (a0 : Act) (K : List Ent → Prop) : List Ent → List Oper → Prop
  | E, [] => K E.reverse
  | E, o :: rest => ∃ fr p, Up R p ∧ (∀ a w, R w0 w → AgreeL a0 E a.eval w (o.looksAt ops) → Spec R P ops o a w fr p) ∧
      wpTab R P ops w0 a0 K (⟨o.dst, fr, p⟩ :: E) rest

theorem wpTab_spec (hR : Pre N R) {w0 : World} {a0 : Act} {K : List Ent → Prop} : ∀ (rest : List Oper) (E : List Ent), wpTab R P ops w0 a0 K E rest →
    ∃ F : List Ent, F.length = rest.length ∧
      (∀ i o, rest[i]? = some o → ∃ e, F[i]? = some e ∧ e.dst = o.dst ∧ Up R e.prop ∧
        ∀ a w, R w0 w → AgreeL a0 ((F.take i).reverse ++ E) a.eval w (o.looksAt ops) → Spec R P ops o a w e.fr e.prop) ∧ K (E.reverse ++ F)
  | [], E, h => ⟨[], rfl, fun i o hi => by simp at hi, by simpa [wpTab] using h⟩
  | o :: rest, E, h => by
    obtain ⟨fr, p, hup, hs, hr⟩ := h
    obtain ⟨F, hl, hF, hK⟩ := wpTab_spec hR rest _ hr
    refine ⟨⟨o.dst, fr, p⟩ :: F, by simp [hl], ?_, by simpa using hK⟩
    intro i o' hi
    cases i with
    | zero =>
      simp at hi; subst hi
      exact ⟨_, rfl, rfl, hup, by simpa using hs⟩
    | succ i =>
      simp at hi
      obtain ⟨e, h1, h2, h3, h4⟩ := hF i o' hi
      exact ⟨e, by simpa using h1, h2, h3, by simpa using h4⟩

structure Inv (R : World → World → Prop) (md : Region.Mode) (ops : Array Oper) (n : Nat) (E : List Ent) (w0 : World) (a0 : Act) (listed : Array Bool) (a : Act) (w : World) : Prop where
  head : HeadInv md ops n listed
  grows : R w0 w
  defers : a.defers = a0.defers
  size : a.tmps.size = a0.tmps.size
  vals : ∃ (V : Nat → Value) (B : Nat → Nat),
    (∀ i e, listed.getD i false = true → E[i]? = some e → e.prop (B i) (V i) w ∧ (e.fr = true → w0.heap.size ≤ B i ∧ B i < w.heap.size) ∧ (∀ t, e.dst = some t → a.tmps[t]? = some (V i))) ∧
    (∀ i j ei ej, listed.getD i false = true → listed.getD j false = true → E[i]? = some ei → E[j]? = some ej → ei.fr = true → ej.fr = true → i ≠ j → B i ≠ B j)
  rest : ∀ t, (∀ i e, listed.getD i false = true → E[i]? = some e → e.dst ≠ some t) → a.tmps[t]? = a0.tmps[t]?

theorem Inv.step (hR : Pre N R) {n size : Nat} {E : List Ent} {w0 : World} {a0 : Act} {listed : Array Bool} {a : Act} {w : World} (ok : TabOk md ops n size) (hsz : a0.tmps.size = size)
    (hE : ∀ i e, E[i]? = some e → i < n ∧ ∃ o, ops[i]? = some o ∧ e.dst = o.dst ∧ Up R e.prop)
    (inv : Inv R md ops n E w0 a0 listed a w) {i : Nat} {e : Ent} (hr : i ∈ Region.ready md ops listed) (he : E[i]? = some e)
    {v : Value} {b : Nat} {w' : World} (hg : R w w') (hb : Born e.fr w w' b) (hp : e.prop b v w') :
    Inv R md ops n E w0 a0 (listed.setIfInBounds i true) (a.put e.dst v) w' := by
  obtain ⟨hin, o, ho, hdst, hup⟩ := hE i e he
  have hun := (mem_ready.1 hr).1
  have hset : ∀ j, (listed.setIfInBounds i true).getD j false = true → j = i ∨ (j ≠ i ∧ listed.getD j false = true) := fun j hj => by
    by_cases hji : j = i
    · exact .inl hji
    · rw [getD_set_ne false (Ne.symm hji)] at hj; exact .inr ⟨hji, hj⟩
  obtain ⟨V, B, hV, hB⟩ := inv.vals
  have hnew : ∀ j ej, j ≠ i → E[j]? = some ej → ∀ t, ej.dst = some t → e.dst ≠ some t := fun j ej hji hej t ht => by
    obtain ⟨hjn, oj, hoj, hdj, _⟩ := hE j ej hej
    rw [hdst]
    exact ok.apart i j o oj t hin hjn ho hoj (hdj ▸ ht) hji
  refine ⟨inv.head.set hr hin, hR.trans inv.grows hg, by rw [put_defers]; exact inv.defers, by rw [put_tmps_size]; exact inv.size, ?_, ?_⟩
  · refine ⟨fun j => if j = i then v else V j, fun j => if j = i then b else B j, ?_, ?_⟩
    · intro j ej hj hej
      rcases hset j hj with rfl | ⟨hji, hj'⟩
      · have : ej = e := Option.some.inj (hej.symm.trans he)
        subst this
        simp only [if_true]
        refine ⟨hp, fun hf => ⟨Nat.le_trans (hR.size inv.grows) (hb hf).1, (hb hf).2⟩, fun t ht => ?_⟩
        rw [ht]
        exact put_tmps_same _ _ _ (by rw [inv.size, hsz]; exact ok.small j o t ho (hdst ▸ ht))
      · simp only [if_neg hji]
        obtain ⟨h1, h2, h3⟩ := hV j ej hj' hej
        refine ⟨(hE j ej hej).2.choose_spec.2.2 _ _ _ _ h1 hg, fun hf => ⟨(h2 hf).1, Nat.lt_of_lt_of_le (h2 hf).2 (hR.size hg)⟩, fun t ht => ?_⟩
        rw [put_tmps_ne _ _ _ _ (hnew j ej hji hej t ht)]
        exact h3 t ht
    · intro j k ej ek hj hk hej hek hfj hfk hjk
      rcases hset j hj with rfl | ⟨hji, hj'⟩ <;> rcases hset k hk with rfl | ⟨hki, hk'⟩
      · exact absurd rfl hjk
      · simp only [if_true, if_neg hki]
        have h1 := ((hV k ek hk' hek).2.1 hfk).2
        have : ej = e := Option.some.inj (hej.symm.trans he)
        subst this
        have h2 := (hb hfj).1
        omega
      · simp only [if_true, if_neg hji]
        have h1 := ((hV j ej hj' hej).2.1 hfj).2
        have : ek = e := Option.some.inj (hek.symm.trans he)
        subst this
        have h2 := (hb hfk).1
        omega
      · simp only [if_neg hji, if_neg hki]
        exact hB j k ej ek hj' hk' hej hek hfj hfk hjk
  · intro t ht
    rw [put_tmps_ne _ _ _ _ (ht i e (by
      have hs : i < listed.size := by rw [inv.head.size]; exact Nat.lt_of_lt_of_le hin ok.le
      simp [hs]) he)]
    refine inv.rest t fun j ej hj hej => ht j ej ?_ hej
    exact getD_set_true hj

theorem Inv.agree (hR : Pre N R) {n size : Nat} {E : List Ent} {w0 : World} {a0 : Act} {listed : Array Bool} {a : Act} {w : World} (ok : TabOk md ops n size)
    (hE : ∀ i e, E[i]? = some e → i < n ∧ ∃ o, ops[i]? = some o ∧ e.dst = o.dst ∧ Up R e.prop) (hlen : E.length = n)
    (inv : Inv R md ops n E w0 a0 listed a w) {i : Nat} {o : Oper} (hr : i ∈ Region.ready md ops listed) (hin : i < n) (ho : ops[i]? = some o) :
    AgreeL a0 (E.take i).reverse a.eval w (o.looksAt ops) := by
  refine AgreeL.of_all fun t ht => ?_
  obtain ⟨hun, o', ho', hall⟩ := mem_ready.1 hr
  have : o' = o := Option.some.inj (ho'.symm.trans ho)
  subst this
  obtain ⟨V, B, hV, _⟩ := inv.vals
  unfold AgreeT
  cases hf : (E.take i).reverse.find? (fun e => e.dst == some t) with
  | some e =>
    have hm := List.mem_reverse.1 (List.mem_of_find?_eq_some hf)
    have hd : e.dst = some t := by simpa using List.find?_some hf
    obtain ⟨k, hk, hke⟩ := List.mem_iff_getElem.1 hm
    have hki : k < i := by simp at hk; omega
    have hek : E[k]? = some e := by
      rw [List.getElem_take] at hke
      rw [← hke]
      exact List.getElem?_eq_getElem (by simp at hk; omega)
    obtain ⟨hkn, ok', hok', hdk, _⟩ := hE k e hek
    have hw := (ok.looks i k o' ok' t hin hkn ho hok' (hdk ▸ hd) ht (by omega)).resolve_right (fun h => by omega)
    obtain ⟨o2, ho2, ed, hed, hbind, hon⟩ := Region.waitsFor_spec hw.2
    have : o2 = o' := Option.some.inj (ho2.symm.trans ho)
    subst this
    have hl := hall ed hed hbind
    rw [hon] at hl
    obtain ⟨h1, _, h3⟩ := hV k e hl hek
    refine ⟨B k, ?_⟩
    have : a.eval (.tmp t) = V k := by simp [Act.eval, h3 t hd]
    rw [this]
    exact h1
  | none =>
    have hno := find_none_all hf
    have hrest := inv.rest t fun k e hl hek hd => by
      obtain ⟨hkn, ok', hok', hdk, _⟩ := hE k e hek
      by_cases hki : k < i
      · refine hno e ?_ hd
        have hk' : k < (E.take i).length := by simp; omega
        have : (E.take i)[k]? = some e := by rw [List.getElem?_take_of_lt hki]; exact hek
        exact List.mem_reverse.2 (List.mem_of_getElem? this)
      · by_cases hke : k = i
        · subst hke
          have := getD_both hun
          rw [hl] at this; cases this
        · have hw := (ok.looks i k o' ok' t hin hkn ho hok' (hdk ▸ hd) ht (by omega)).resolve_left (fun h => by omega)
          obtain ⟨o2, ho2, ed, hed, hbind, hon⟩ := Region.waitsFor_spec hw.2
          have h1 := inv.head.closed k o2 ho2 hl ed hed hbind
          rw [hon, getD_both hun] at h1
          cases h1
    simp [Act.eval, hrest]

theorem Inv.wpOp (hR : Pre N R) {n size : Nat} {E : List Ent} {w0 : World} {a0 : Act} {listed : Array Bool} {a : Act} {w : World} {Q : Exit → Act → World → Prop} (ok : TabOk md ops n size) (hsz : a0.tmps.size = size)
    (hE : ∀ i e, E[i]? = some e → i < n ∧ ∃ o, ops[i]? = some o ∧ e.dst = o.dst ∧ Up R e.prop) (hlen : E.length = n)
    (hS : ∀ i o e, ops[i]? = some o → E[i]? = some e → ∀ a w, R w0 w → AgreeL a0 (E.take i).reverse a.eval w (o.looksAt ops) → Spec R P ops o a w e.fr e.prop)
    (inv : Inv R md ops n E w0 a0 listed a w) {i : Nat} (hr : i ∈ Region.ready md ops listed) (hin : i < n) :
    wpOp P ops Q i (fun a' w' => Inv R md ops n E w0 a0 (listed.setIfInBounds i true) a' w') a w := by
  have hi : i < ops.size := Nat.lt_of_lt_of_le hin ok.le
  have ho : ops[i]? = some ops[i] := Array.getElem?_eq_getElem hi
  generalize ops[i] = o at ho
  have he : E[i]? = some (E[i]'(by omega)) := List.getElem?_eq_getElem (by omega)
  generalize E[i]'(by omega) = e at he
  have hdst : e.dst = o.dst := by
    obtain ⟨_, o', ho', hd, _⟩ := hE i e he
    rw [hd, Option.some.inj (ho'.symm.trans ho)]
  have hs := hS i o e ho he a w inv.grows (inv.agree hR ok hE hlen hr hin ho)
  unfold Go.wpOp
  simp only [ho]
  unfold Spec at hs
  split
  · rename_i hw
    simp only [hw, if_true] at hs
    refine .inl ?_
    unfold Oper.wp
    unfold Holds at hs
    generalize (execOp a.eval o).run P w = r at hs
    cases r with
    | ok nx w' =>
      cases nx <;> simp only [HoldsR] at hs <;> simp only [Oper.upon]
      case value v =>
        obtain ⟨hg, b, hb, hp⟩ := hs
        rw [← hdst]; exact inv.step hR ok hsz hE hr he hg hb hp
      case skip =>
        obtain ⟨hg, b, hb, hp⟩ := hs
        rw [← hdst]; exact inv.step hR ok hsz hE hr he hg hb hp
      case enter f args =>
        obtain ⟨hg, hc⟩ := hs
        refine hc.mono fun en w'' ⟨v, b, hv, hg', hb, hp⟩ => ?_
        subst hv
        rw [← hdst]; exact inv.step hR ok hsz hE hr he (hR.trans hg hg') hb hp
    | halt x w' => simp only [HoldsR] at hs
  · rename_i hw
    simp only [hw] at hs
    obtain ⟨hf, b, hp⟩ := hs
    rw [← hdst]
    exact inv.step hR ok hsz hE hr he (hR.refl w) (fun h => by rw [hf] at h; cases h) hp

theorem Inv.fin (hR : Pre N R) {n size : Nat} {E : List Ent} {w0 : World} {a0 : Act} {listed : Array Bool} {a : Act} {w : World} {K : Act → World → Prop} (_k : TabOk md ops n size) (hlen : E.length = n) (_hsz : a0.tmps.size = size)
    (inv : Inv R md ops n E w0 a0 listed a w) (hdone : ∀ i, i < n → listed.getD i false = true) (h : Out w0 K w E [] a0) : K a w := by
  obtain ⟨V, B, hV, hB⟩ := inv.vals
  have go : ∀ (k : Nat) (F : List Ent) (fs : List Nat) (c : Act), k + F.length = n → (∀ j, F[j]? = E[k + j]?) → (∀ b ∈ fs, ∃ (j : Nat) (e : Ent), j < k ∧ E[j]? = some e ∧ e.fr = true ∧ b = B j) →
      c.defers = a0.defers → c.tmps.size = a0.tmps.size → (∀ t, (∃ (j : Nat) (e : Ent), j < k ∧ E[j]? = some e ∧ e.dst = some t) → c.tmps[t]? = a.tmps[t]?) →
      (∀ t, (∀ (j : Nat) (e : Ent), E[j]? = some e → e.dst ≠ some t) → c.tmps[t]? = a.tmps[t]?) → Out w0 K w F fs c → K a w := by
    intro k F
    induction F generalizing k with
    | nil =>
      intro fs c hk _ _ hd hs h1 h2 hfin
      have hk' : k = n := by simpa using hk
      have : c = a := by
        have ht : c.tmps = a.tmps := by
          apply Array.ext_getElem?
          intro t
          by_cases hx : ∃ (j : Nat) (e : Ent), j < k ∧ E[j]? = some e ∧ e.dst = some t
          · exact h1 t hx
          · refine h2 t fun j e hje hd => hx ⟨j, e, ?_, hje, hd⟩
            have := (List.getElem?_eq_some_iff.1 hje).1
            omega
        have hdd : c.defers = a.defers := by rw [hd, inv.defers]
        cases c; cases a; simp only at ht hdd; subst ht; subst hdd; rfl
      subst this
      exact hfin
    | cons e F ih =>
      intro fs c hk hF hfs hd hs h1 h2 hfin
      have he : E[k]? = some e := by have := hF 0; simpa using this.symm
      have hkn : k < n := by simp at hk; omega
      obtain ⟨hp, hf, hdst⟩ := hV k e (hdone k hkn) he
      have hfin' : Out w0 K w F (if e.fr then B k :: fs else fs) (c.put e.dst (V k)) := by
        obtain ⟨ed, efr, ep⟩ := e
        cases efr with
        | false => exact hfin (B k) (V k) hp
        | true =>
          refine hfin (B k) (V k) hp (hf rfl).1 (hf rfl).2 (Apart.of fun b' hb' => ?_)
          obtain ⟨j, ej, hjk, hej, hfj, rfl⟩ := hfs b' hb'
          exact hB k j _ ej (hdone k hkn) (hdone j (by omega)) he hej rfl hfj (by omega)
      refine ih (k + 1) _ _ (by simp at hk; omega) (fun j => by have := hF (j + 1); simpa [Nat.add_assoc, Nat.add_comm 1 j] using this) ?_ (by rw [put_defers]; exact hd) (by rw [put_tmps_size]; exact hs) ?_ ?_ hfin'
      · intro b hb
        cases hfr : e.fr with
        | false =>
          simp only [hfr] at hb
          obtain ⟨j, ej, hjk, r⟩ := hfs b hb
          exact ⟨j, ej, by omega, r⟩
        | true =>
          simp only [hfr, if_true, List.mem_cons] at hb
          rcases hb with rfl | hb
          · exact ⟨k, e, by omega, he, hfr, rfl⟩
          · obtain ⟨j, ej, hjk, r⟩ := hfs b hb
            exact ⟨j, ej, by omega, r⟩
      · intro t ⟨j, ej, hj, hej, hdj⟩
        by_cases hke : e.dst = some t
        · rw [hdst t hke, hke]
          refine put_tmps_same _ _ _ ?_
          rw [hs, ← inv.size]
          have := hdst t hke
          exact (Array.getElem?_eq_some_iff.1 this).1
        · rw [put_tmps_ne _ _ _ _ hke]
          refine h1 t ⟨j, ej, ?_, hej, hdj⟩
          by_cases hjk : j = k
          · subst hjk
            have : ej = e := Option.some.inj (hej.symm.trans he)
            subst this
            exact absurd hdj hke
          · omega
      · intro t ht
        rw [put_tmps_ne _ _ _ _ (ht k e he)]
        exact h2 t ht
  refine go 0 E [] a0 (by omega) (by simp) (by simp) rfl rfl (fun t ⟨j, _, hj, _⟩ => absurd hj (Nat.not_lt_zero _)) (fun t ht => ?_) h
  exact (inv.rest t fun i e _ he => ht i e he).symm

theorem Inv.any (hR : Pre N R) {n size : Nat} {E : List Ent} {w0 : World} {a0 : Act} {Q : Exit → Act → World → Prop} (ok : TabOk md ops n size) (hsz : a0.tmps.size = size)
    (hE : ∀ i e, E[i]? = some e → i < n ∧ ∃ o, ops[i]? = some o ∧ e.dst = o.dst ∧ Up R e.prop) (hlen : E.length = n)
    (hS : ∀ i o e, ops[i]? = some o → E[i]? = some e → ∀ a w, R w0 w → AgreeL a0 (E.take i).reverse a.eval w (o.looksAt ops) → Spec R P ops o a w e.fr e.prop)
    (hfin : ∀ w, R w0 w → Out w0 (fun a w => wpList P ops Q (ops.toList.drop n) a w) w E [] a0) :
    ∀ (f : Nat) (listed : Array Bool) (a : Act) (w : World), Inv R md ops n E w0 a0 listed a w → left n listed = f → wpAny P md ops Q (f + (ops.size - n)) listed a w := by
  intro f
  induction f with
  | zero =>
    intro listed a w inv hl
    have hdone' : ∀ i, i < n → listed.getD i true = true := fun i hi => by
      unfold left at hl
      have h0 : (List.range n).filter (fun i => !listed.getD i true) = [] := List.length_eq_zero_iff.1 hl
      have := List.filter_eq_nil_iff.1 h0 i (List.mem_range.2 hi)
      simpa using this
    have hdone : ∀ i, i < n → listed.getD i false = true := fun i hi => by
      have hs : i < listed.size := by rw [inv.head.size]; exact Nat.lt_of_lt_of_le hi ok.le
      have := hdone' i hi
      simpa [hs] using this
    have hlisted : listed = Array.ofFn (n := ops.size) fun i => decide (i.val < n) := by
      apply Array.ext (by simp [inv.head.size])
      intro i h1 h2
      simp only [Array.getElem_ofFn]
      by_cases hi : i < n
      · have := hdone i hi
        simpa [h1, hi] using this
      · have := inv.head.tail i (by omega) (by rw [← inv.head.size]; exact h1)
        simpa [h1, hi] using this
    have hw := inv.fin hR ok hlen hsz hdone (hfin w inv.grows)
    have hdl : (ops.toList.drop n).length = ops.size - n := by simp
    have := wpAny_of_seq (md := md) (Q' := Q) (ops.toList.drop n) n listed a w (fun j => by simp [List.getElem?_drop]) (by rw [hdl, hlisted]; exact ok.seq) hw
    rwa [hdl, ← Nat.zero_add (ops.size - n)] at this
  | succ f ih =>
    intro listed a w inv hl
    have hex : ∃ i, i < n ∧ listed.getD i true = false := by
      refine Classical.byContradiction fun hno => ?_
      have : left n listed = 0 := by
        unfold left
        rw [List.length_eq_zero_iff, List.filter_eq_nil_iff]
        intro i hi
        have hi' := List.mem_range.1 hi
        cases hx : listed.getD i true with
        | true => simp
        | false => exact absurd ⟨i, hi', hx⟩ hno
      omega
    have hne : Region.ready md ops listed ≠ [] := by
      obtain ⟨i0, hi0, hu0⟩ := hex
      have least : ∀ m i, i ≤ m → i < n → listed.getD i true = false → Region.ready md ops listed ≠ [] := by
        intro m
        induction m with
        | zero =>
          intro i him hin hun
          have hi0 : i = 0 := by omega
          subst hi0
          have hs : 0 < ops.size := Nat.lt_of_lt_of_le hin ok.le
          intro hnil
          have : 0 ∈ Region.ready md ops listed := mem_ready.2 ⟨hun, ops[0], Array.getElem?_eq_getElem hs, fun e he hbi => absurd (ok.back 0 _ (Array.getElem?_eq_getElem hs) e he hbi) (Nat.not_lt_zero _)⟩
          rw [hnil] at this; cases this
        | succ m ihm =>
          intro i him hin hun
          have hs : i < ops.size := Nat.lt_of_lt_of_le hin ok.le
          by_cases hall : ∀ j, j < i → listed.getD j false = true
          · intro hnil
            have : i ∈ Region.ready md ops listed := mem_ready.2 ⟨hun, ops[i], Array.getElem?_eq_getElem hs, fun e he hbi => hall _ (ok.back i _ (Array.getElem?_eq_getElem hs) e he hbi)⟩
            rw [hnil] at this; cases this
          · have hall' : ∃ j, j < i ∧ listed.getD j false ≠ true := Classical.byContradiction fun hno => hall fun j hj => Classical.byContradiction fun hx => hno ⟨j, hj, hx⟩
            obtain ⟨j, hj, hjn⟩ := hall'
            have hjs : j < listed.size := by rw [inv.head.size]; omega
            exact ihm j (by omega) (by omega) (getD_in hjs (by simpa using hjn))
      exact least i0 i0 (Nat.le_refl _) hi0 hu0
    have hbelow : ∀ i ∈ Region.ready md ops listed, i < n := by
      intro i hi
      obtain ⟨i0, hi0, hu0⟩ := hex
      rcases ok.sink with hs | ⟨hs, hc⟩
      · obtain ⟨_, o, ho, _⟩ := mem_ready.1 hi
        rw [hs]; exact (Array.getElem?_eq_some_iff.1 ho).1
      · rcases Nat.lt_or_ge i n with h | h
        · exact h
        · have hi' : i < ops.size := by
            obtain ⟨_, o, ho, _⟩ := mem_ready.1 hi
            exact (Array.getElem?_eq_some_iff.1 ho).1
          exact absurd hi (tail_waits hs hc (by omega) inv.head _ i0 rfl hi0 hu0 i h)
    rw [show f + 1 + (ops.size - n) = (f + (ops.size - n)) + 1 by omega]
    refine ⟨fun h => absurd h hne, fun i hi => ?_⟩
    have hin := hbelow i hi
    have hun := (mem_ready.1 hi).1
    exact wpOp_mono (fun a' w' inv' => ih _ a' w' inv' (by have := left_set hin hun; omega)) (inv.wpOp hR ok hsz hE hlen hS hi hin)

theorem wp_region_tabR (hR : Pre N R) {id : Nat} {Q : Exit → Act → World → Prop} {a : Act} {w : World} {l : List Oper} (n : Nat) (hm : P.follows .mixedOrders = true)
    (hB : tabB .any l.toArray n a.tmps.size = true)
    (h : ∀ w0, w0.heap = w.heap → Grows w w0 → Grows w0 w → wpTab R P l.toArray w0 a (fun E => ∀ w', R w0 w' → Out w0 (fun a' w'' => wpList P l.toArray Q (l.drop n) a' w'') w' E [] a) [] (l.take n)) :
    (Code.region id l.toArray true).wp P Q a w := by
  have ok := TabOk.of hB
  refine wp_region_any hm ?_
  have h0 := h { w with drawn := w.drawn + 1 } rfl ⟨rfl, rfl, rfl, Nat.le_refl _, fun _ _ => rfl⟩ ⟨rfl, rfl, rfl, Nat.le_refl _, fun _ _ => rfl⟩
  generalize ({ w with drawn := w.drawn + 1 } : World) = w0 at h0
  obtain ⟨F, hl, hF, hK⟩ := wpTab_spec hR _ _ h0
  simp only [List.append_nil, List.reverse_nil, List.nil_append] at hF hK
  have hle : n ≤ l.length := by simpa using ok.le
  have hlen : F.length = n := by rw [hl]; simp; omega
  have hget : ∀ i o, i < n → l.toArray[i]? = some o → (l.take n)[i]? = some o := fun i o hi ho => by
    rw [List.getElem?_take_of_lt hi]; simpa using ho
  have hE : ∀ i e, F[i]? = some e → i < n ∧ ∃ o, l.toArray[i]? = some o ∧ e.dst = o.dst ∧ Up R e.prop := fun i e he => by
    have hin : i < n := by have := (List.getElem?_eq_some_iff.1 he).1; omega
    have hs : i < l.toArray.size := Nat.lt_of_lt_of_le hin ok.le
    obtain ⟨e', h1, h2, h3, _⟩ := hF i _ (hget i _ hin (Array.getElem?_eq_getElem hs))
    have : e' = e := Option.some.inj (h1.symm.trans he)
    subst this
    exact ⟨hin, _, Array.getElem?_eq_getElem hs, h2, h3⟩
  have hS : ∀ i o e, l.toArray[i]? = some o → F[i]? = some e → ∀ a' w', R w0 w' → AgreeL a (F.take i).reverse a'.eval w' (o.looksAt l.toArray) → Spec R P l.toArray o a' w' e.fr e.prop := fun i o e ho he => by
    obtain ⟨hin, _⟩ := hE i e he
    obtain ⟨e', h1, _, _, h4⟩ := hF i o (hget i o hin ho)
    have : e' = e := Option.some.inj (h1.symm.trans he)
    subst this
    exact h4
  have inv0 : Inv R .any l.toArray n F w0 a (Array.replicate l.toArray.size false) a w0 := by
    refine ⟨⟨by simp, fun j oj _ hx => (by rw [getD_replicate_false] at hx; cases hx), fun t _ ht => getD_in (by simpa using ht) (getD_replicate_false _ _)⟩, hR.refl _, rfl, rfl, ⟨fun _ => undef, fun _ => 0, ?_, ?_⟩, fun t _ => rfl⟩
    · intro i e hx; rw [getD_replicate_false] at hx; cases hx
    · intro i j ei ej hx; rw [getD_replicate_false] at hx; cases hx
  have hleft : left n (Array.replicate l.toArray.size false) = n := by
    unfold left
    rw [List.filter_eq_self.2, List.length_range]
    intro i hi
    have : i < l.toArray.size := Nat.lt_of_lt_of_le (List.mem_range.1 hi) ok.le
    have h1 := getD_in (listed := Array.replicate l.toArray.size false) (by simpa using this) (getD_replicate_false _ i)
    rw [h1]; rfl
  have := Inv.any hR (Q := Q) ok rfl hE hlen hS (by simpa using hK) n _ a w0 inv0 hleft
  rwa [show n + (l.toArray.size - n) = l.toArray.size by have := ok.le; omega] at this
end

/-! ### The steps -/
section
variable {N : Nat} {R : World → World → Prop} {P : Program} {ops : Array Oper} {w0 : World} {a0 : Act} {K : List Ent → Prop} {E : List Ent} {o : Oper} {rest : List Oper}

theorem up_const (v : Value) : Up R (fun _ x _ => x = v) := fun _ _ _ _ h _ => h

theorem tabR_val (hR : Pre N R) (v : Value) (hs : ∀ r w, Env r → R w0 w → AgreeL a0 E r w (o.looksAt ops) → Guard ops o r true ∧ (execOp r o).run P w = .ok (.value v) w)
    (hr : wpTab R P ops w0 a0 K (⟨o.dst, false, fun _ x _ => x = v⟩ :: E) rest) : wpTab R P ops w0 a0 K E (o :: rest) :=
  ⟨false, _, up_const v, fun a w hg hA => by
    obtain ⟨h1, h2⟩ := hs a.eval w (Env.of a) hg hA
    unfold Spec Holds
    rw [if_pos h1.wanted, h2]
    exact ⟨hR.refl _, 0, (fun h => by cases h), rfl⟩, hr⟩

theorem tabR_skip (hs : ∀ r w, Env r → R w0 w → AgreeL a0 E r w (o.looksAt ops) → Guard ops o r false)
    (hr : wpTab R P ops w0 a0 K (⟨o.dst, false, fun _ x _ => x = undef⟩ :: E) rest) : wpTab R P ops w0 a0 K E (o :: rest) :=
  ⟨false, _, up_const undef, fun a w hg hA => by
    have h1 := (hs a.eval w (Env.of a) hg hA).unwanted
    unfold Spec
    rw [h1]
    exact ⟨rfl, 0, rfl⟩, hr⟩

/-- A call, its arguments known, its answer plain. -/
theorem tabR_call (hR : Pre N R) {f : FuncId} {args : Array Value} {v : Value} (hc : ∀ w, R w0 w → Calls P f args w (Tab.Ret v w))
    (hs : ∀ r w, Env r → R w0 w → AgreeL a0 E r w (o.looksAt ops) → Guard ops o r true ∧ (execOp r o).run P w = .ok (.enter f args) w)
    (hr : wpTab R P ops w0 a0 K (⟨o.dst, false, fun _ x _ => x = v⟩ :: E) rest) : wpTab R P ops w0 a0 K E (o :: rest) :=
  ⟨false, _, up_const v, fun a w hg hA => by
    obtain ⟨h1, h2⟩ := hs a.eval w (Env.of a) hg hA
    unfold Spec Holds
    rw [if_pos h1.wanted, h2]
    exact ⟨hR.refl _, (hc w hg).mono fun e w' ⟨he, hw⟩ => ⟨v, 0, he, hR.of hw, (fun h => by cases h), rfl⟩⟩, hr⟩

theorem tabR_gen (fr : Bool) (p : Nat → Value → World → Prop) (hup : Up R p)
    (hs : ∀ r w, Env r → R w0 w → AgreeL a0 E r w (o.looksAt ops) → Guard ops o r true ∧ HoldsR R P w fr p ((execOp r o).run P w))
    (hr : wpTab R P ops w0 a0 K (⟨o.dst, fr, p⟩ :: E) rest) : wpTab R P ops w0 a0 K E (o :: rest) :=
  ⟨fr, p, hup, fun a w hg hA => by
    obtain ⟨h1, h2⟩ := hs a.eval w (Env.of a) hg hA
    unfold Spec Holds
    rw [if_pos h1.wanted]; exact h2, hr⟩

/-- A new block that holds this. -/
theorem tabR_block (hR : Pre N R) (hN : N ≤ w0.heap.size) (obj : Obj) (mk : Nat → Value)
    (hs : ∀ r w, Env r → R w0 w → AgreeL a0 E r w (o.looksAt ops) → Guard ops o r true ∧ (execOp r o).run P w = .ok (.value (mk w.heap.size)) (w.alloc obj))
    (hr : wpTab R P ops w0 a0 K (⟨o.dst, false, fun _ v w => ∃ b, v = mk b ∧ N ≤ b ∧ w.heap[b]? = some obj⟩ :: E) rest) : wpTab R P ops w0 a0 K E (o :: rest) :=
  tabR_gen false _ (fun _ v w w' ⟨b, h1, h2, h3⟩ hg => ⟨b, h1, h2, hR.new hg _ _ h2 h3⟩) (fun r w hr hg hA => by
    obtain ⟨h1, h2⟩ := hs r w hr hg hA
    refine ⟨h1, ?_⟩
    rw [h2]
    exact ⟨hR.of (Grows.alloc _ _), 0, (fun h => by cases h), w.heap.size, rfl, Nat.le_trans hN (hR.size hg), heap_new _ _ _ rfl⟩) hr

theorem tabR_end (h : K E.reverse) : wpTab R P ops w0 a0 K E [] := h
end

/-! ### Rows that grow at their end, each by what is known -/
/-- A row that grows: its block, how many cells it has, and what it holds once it has grown. -/
structure Res where
  g : Nat
  off : Nat
  all : List Value
structure Rs (S : List Res) (w w' : World) : Prop where
  os : w'.os = w.os
  tape : w'.tape = w.tape
  output : w'.output = w.output
  size : w.heap.size ≤ w'.heap.size
  block : ∀ k, k < w.heap.size → (∀ s ∈ S, s.g ≠ k) → w'.heap[k]? = w.heap[k]?
  row : ∀ s ∈ S, ∀ cur e, w.heap[s.g]? = some (.cells cur e (0, 0)) → ∃ cur', w'.heap[s.g]? = some (.cells cur' e (0, 0)) ∧ cur'.size = cur.size ∧ cur'.toList.take s.off = cur.toList.take s.off ∧
    (cur.toList.take s.all.length = s.all → cur'.toList.take s.all.length = s.all)
theorem Rs.pre {S : List Res} {N : Nat} (hS : ∀ s ∈ S, s.g < N) : Pre N (Rs S) where
  refl w := ⟨rfl, rfl, rfl, Nat.le_refl _, fun _ _ _ => rfl, fun s _ cur e h => ⟨cur, h, rfl, rfl, id⟩⟩
  trans {a b c} h k := ⟨k.os.trans h.os, k.tape.trans h.tape, k.output.trans h.output, Nat.le_trans h.size k.size, fun i hi hn => (k.block i (Nat.lt_of_lt_of_le hi h.size) hn).trans (h.block i hi hn), fun s hs cur e hc => by
    obtain ⟨c1, h1, h2, h3, h4⟩ := h.row s hs cur e hc
    obtain ⟨c2, k1, k2, k3, k4⟩ := k.row s hs c1 e h1
    exact ⟨c2, k1, k2.trans h2, k3.trans h3, fun hx => k4 (h4 hx)⟩⟩
  size h := h.size
  of h := ⟨h.os, h.tape, h.output, h.size, fun k hk _ => Below.block h k hk, fun s _ cur e hc => ⟨cur, Grows.block h hc, rfl, rfl, id⟩⟩
  new h k x hk hx := by
    rw [h.block k (Array.getElem?_eq_some_iff.1 hx).1 (fun s hs => by have := hS s hs; omega)]
    exact hx
/-- The row as it was is owned still. -/
theorem Rs.old {S : List Res} {w w' : World} (h : Rs S w w') {base : Nat} {e : TypeId} {size n : Nat} {v : Value} {xs : List Value} (hv : w.ownsRow base e size v n xs) {s : Res} (hs : s ∈ S) (hg : v.ownBlock = some s.g) (ho : s.off = n * size) : w'.ownsRow base e size v n xs := by
  obtain ⟨h0, ⟨rfl, _⟩ | ⟨g, cap, cur, rfl, hb, hh, h1, h2, h3, h4⟩⟩ := hv
  · cases hg
  · have hgg : g = s.g := by injection hg
    subst hgg
    obtain ⟨c1, k1, k2, k3, k4⟩ := h.row s hs cur e hh
    exact ⟨h0, .inr ⟨s.g, cap, c1, rfl, hb, k1, h1, h2, k2.trans h3, by rw [← ho, k3, ho]; exact h4⟩⟩
/-- What the row is once it has grown: it lies where it lay, or is new. -/
def Grown (N : Nat) (s : Res) (base : Nat) (e : TypeId) (size : Nat) (v : Value) (n : Nat) (w : World) : Prop := w.ownsRow base e size v n s.all ∧ (v.ownBlock = some s.g ∨ ∃ b, v.ownBlock = some b ∧ N ≤ b)
theorem Grown.up {S : List Res} {N : Nat} {s : Res} {base : Nat} {e : TypeId} {size n : Nat} {v : Value} {w w' : World} (hS : ∀ s ∈ S, s.g < N) (hs : s ∈ S) (h : Grown N s base e size v n w) (hw : Rs S w w') : Grown N s base e size v n w' := by
  obtain ⟨⟨h0, ⟨rfl, _⟩ | ⟨g, cap, cur, rfl, hb, hh, h1, h2, h3, h4⟩⟩, hk⟩ := h
  · rcases hk with hk | ⟨b, hk, _⟩ <;> cases hk
  · refine ⟨⟨h0, .inr ?_⟩, hk⟩
    have hgl : g < w.heap.size := (Array.getElem?_eq_some_iff.1 hh).1
    rcases hk with hk | ⟨b, hk, hN⟩
    · have hgg : g = s.g := by injection hk
      subst hgg
      obtain ⟨c1, k1, k2, k3, k4⟩ := hw.row s hs cur e hh
      exact ⟨s.g, cap, c1, rfl, hb, k1, h1, h2, k2.trans h3, by rw [← h0] at h4 ⊢; exact k4 h4⟩
    · have hgg : g = b := by injection hk
      subst hgg
      exact ⟨g, cap, cur, rfl, hb, by rw [hw.block g hgl (fun s hs => by have := hS s hs; omega)]; exact hh, h1, h2, h3, h4⟩

section
variable {P : Program} (w : World)
/-- append to a row of the call's own that isn't nil: its block, if it is written, keeps what it held. -/
theorem run_append_res {S : List Res} {s : Res} (hs : s ∈ S) (hne : ∀ s' ∈ S, s' ≠ s → s'.g ≠ s.g) {N : Nat} (hN : N ≤ w.heap.size) (base : Nat) (t ty e : TypeId) (i : TypeInfo) (z : Value) (size bytes : Nat) (ht : P.underlying t = some (.slice e)) (hi : P.info? e = some i) (hz : i.zero = some z)
    (hsize : i.size = size) (hby : i.bytes = bytes) (hzs : z.cells.size = size) (hsz : 0 < size)
    (v : Value) (n : Nat) (xs : List Value) (hown : w.ownsRow base e size v n xs) (hg : v.ownBlock = some s.g) (hoff : s.off = n * size)
    (a : Addr) (m c : Nat) (news : List Value) (hall : s.all = xs ++ news) (hl : news.length = m * size) (hnews : ∀ j u, news[j]? = some u → w.cell? (a.add j) = some u) (h1 : ∀ u ∈ news, u.oneCell' = true)
    (h63 : n + m ≤ maxLen) (hbytes : (n + m) * bytes ≤ 140737488355328) (hbase : base ≤ w.heap.size) :
    ∃ v' w', (Builtin.append_ #[t, t] ty #[v, .slice (some a) m c]).run P w = .ok v' w' ∧ Grown N s base e size v' (n + m) w' ∧ Rs S w w' := by
  subst hsize
  subst hby
  have hlen : (xs ++ news).length = (n + m) * i.size := by rw [List.length_append, hown.1, hl, Nat.add_mul]
  rcases hown.2 with ⟨rfl, rfl⟩ | ⟨g, cap, cur, rfl, hbg, hgh, hnc, hcm, hcs, htake⟩
  · cases hg
  · have hgg : g = s.g := by injection hg
    by_cases hroom : n + m ≤ cap
    · have hfit : n * i.size + news.length ≤ cur.size := by rw [hl, hcs, ← Nat.add_mul]; exact Nat.mul_le_mul_right _ hroom
      have hr := run_append_room (P := P) w t ty e i ht hi g n cap cur hgh a m c news hl hnews h1 hroom hfit
      have hx : n * i.size = xs.length := hown.1.symm
      have e1 : (List.take (n * i.size) cur.toList ++ news ++ List.drop (n * i.size + news.length) cur.toList) = (xs ++ news) ++ List.drop (n * i.size + news.length) cur.toList := by rw [htake]
      have hsz' : (List.take (n * i.size) cur.toList ++ news ++ List.drop (n * i.size + news.length) cur.toList).toArray.size = cur.size := by
        simp only [List.size_toArray, List.length_append, List.length_take, List.length_drop, Array.length_toList]
        omega
      refine ⟨_, _, hr, ⟨⟨by rw [hall]; exact hlen, .inr ⟨g, cap, _, rfl, hbg, setRow_heap w g cur _ e _ hgh, hroom, hcm, by rw [hsz', hcs], ?_⟩⟩, .inl (by rw [← hgg]; rfl)⟩, ⟨rfl, rfl, rfl, by simp, fun k _ hk => setRow_other w g k _ (fun e => hk s hs (by rw [e, hgg])), ?_⟩⟩
      · rw [List.toList_toArray, e1, ← hlen, hall]
        exact List.take_left
      · intro s' hs' cur1 e' hc
        by_cases hss : s' = s
        · subst hss
          rw [← hgg] at hc ⊢
          rw [hgh] at hc
          injection hc with hc
          injection hc with hc1 hc2
          subst hc1
          subst hc2
          refine ⟨_, setRow_heap w g cur _ e _ hgh, hsz', ?_, ?_⟩
          · rw [List.toList_toArray, e1, hoff, hx, List.append_assoc, List.take_left, ← hx]
            exact htake.symm
          · intro _
            rw [List.toList_toArray, e1, hall]
            exact List.take_left
        · refine ⟨cur1, ?_, rfl, rfl, id⟩
          rw [setRow_other w g s'.g _ (by rw [hgg]; exact hne s' hs' hss)]
          exact hc
    · have holds : ∀ j u, xs[j]? = some u → w.cell? ((⟨g, 0, none⟩ : Addr).add j) = some u := hown.cells (g := g) rfl
      have hr := run_append_grow (P := P) w t ty e i z ht hi hz ⟨g, 0, none⟩ n cap xs hown.1 holds a m c news hl hnews (by omega) (by simp only [maxLen] at h63; omega) (growslice_fits (by omega) hbytes)
      have hge := grownCap_ge w (n + m) cap e
      have hcm' : grownCap w (n + m) cap e ≤ maxLen := grownCap_le_maxLen w (n + m) cap e h63
      have hold : ∀ k, k < w.heap.size → (w.drew.alloc (.cells (xs.toArray ++ news.toArray ++ Builtin.zeroCells z.cells (grownCap w (n + m) cap e - (n + m))) e)).heap[k]? = w.heap[k]? := fun k hk => heap_alloc_old w.drew _ k hk
      refine ⟨_, _, hr, ⟨⟨by rw [hall]; exact hlen, .inr ⟨w.heap.size, _, _, rfl, hbase, heap_alloc_new w.drew _, hge, hcm', ?_, ?_⟩⟩, .inr ⟨w.heap.size, rfl, hN⟩⟩, ⟨rfl, rfl, rfl, by simp, fun k hk _ => hold k hk, fun s' hs' cur1 e' hc => ⟨cur1, by rw [hold _ (Array.getElem?_eq_some_iff.1 hc).1]; exact hc, rfl, rfl, id⟩⟩⟩
      · simp only [Array.size_append, List.size_toArray, size_zeroCells, hzs, hown.1, hl, ← Nat.add_mul]
        congr 1
        omega
      · simp only [Array.toList_append, List.append_assoc]
        rw [← List.append_assoc, ← hlen, hall]
        exact List.take_left
end
section
variable {P : Program} {ops : Array Oper} {w0 : World} {a0 : Act} {K : List Ent → Prop} {E : List Ent} {o : Oper} {rest : List Oper}
/-- append of a new block's cells to a row that is reserved for it. -/
theorem tabR_append {S : List Res} {N : Nat} (hS : ∀ s ∈ S, s.g < N) (hN : N ≤ w0.heap.size) {s : Res} (hs : s ∈ S) (hne : ∀ s' ∈ S, s' ≠ s → s'.g ≠ s.g) (so x : Operand) (base : Nat) (t e : TypeId) (i : TypeInfo) (z : Value) (size bytes : Nat)
    (ho : o.op = .call { callee := .builtin .append, args := #[so, x], argTypes := #[t, t] }) (ht : P.underlying t = some (.slice e)) (hi : P.info? e = some i) (hz : i.zero = some z)
    (hsize : i.size = size) (hby : i.bytes = bytes) (hzs : z.cells.size = size) (hsz : 0 < size)
    (v : Value) (n : Nat) (xs : List Value) (hown : w0.ownsRow base e size v n xs) (hg : v.ownBlock = some s.g) (hoff : s.off = n * size) (m : Nat) (news : List Value) (hall : s.all = xs ++ news) (hl : news.length = m * size) (h1 : ∀ u ∈ news, u.oneCell' = true)
    (h63 : n + m ≤ maxLen) (hbytes : (n + m) * bytes ≤ 140737488355328) (hbase : base ≤ w0.heap.size)
    (hst : ∀ r w, Env r → Rs S w0 w → AgreeL a0 E r w (o.looksAt ops) → Guard ops o r true ∧ r so = v ∧ ∃ b c, r x = .slice (some ⟨b, 0, none⟩) m c ∧ ∀ j u, news[j]? = some u → w.cell? ⟨b, j, none⟩ = some u)
    (hr : wpTab (Rs S) P ops w0 a0 K (⟨o.dst, false, fun _ v w => Grown N s base e size v (n + m) w⟩ :: E) rest) : wpTab (Rs S) P ops w0 a0 K E (o :: rest) :=
  tabR_gen false _ (fun _ v w w' h hw => h.up hS hs hw) (fun r w hr hgr hA => by
    obtain ⟨h2, h3, b, c, h4, h5⟩ := hst r w hr hgr hA
    refine ⟨h2, ?_⟩
    obtain ⟨v', w', hrun, hgn, hrs⟩ := run_append_res (P := P) w hs hne (Nat.le_trans hN hgr.size) base t o.type e i z size bytes ht hi hz hsize hby hzs hsz v n xs (hgr.old hown hs hg hoff) hg hoff ⟨b, 0, none⟩ m c news hall hl (fun j u hj => by rw [Tab.add_at, Nat.zero_add]; exact h5 j u hj) h1 h63 hbytes (Nat.le_trans hbase hgr.size)
    unfold execOp
    simp only [ho, resolve, invoke, builtin, Sem.run_bind, Sem.run_pure, Result.andThen_ok, List.map_toArray, List.map_cons, List.map_nil, h3, h4, hrun]
    exact ⟨hrs, 0, (fun h => by cases h), hgn⟩) hr
end
end Go.TabR
