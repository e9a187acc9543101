/-
  Layer 8: all fields of any bytes.
-/
import Derived.RegionIn
import Derived.BigRegionIn
import Derived.Test.YtdiciboaehdckaaD24
namespace Go.Proofs.Ytdiciboaehdckaa
open Go.RowKit Go.Tab Go.WideShapes Go.Shelf
attribute [local go_sem] Oper.semAt_some

set_option maxHeartbeats 1000000 in
theorem steps_any (a : Option Addr) (n c : Nat) (w : World) : Calls Try.prog 28 #[.slice a n c] w fun e w' => e = .returned (.func (.func 37) #[] #[.pointer (some ⟨w.heap.size, 0, none⟩)]) ∧ w' = w.alloc (.cells #[.slice a n c] 24) := by
  go_enter Try.func28, Try.ntmps28
  go_wp2
  go_ret
  exact ⟨rfl, rfl⟩

theorem chain_all {b : List Nat} (hx : ∀ x ∈ b, x < 256) {pre : List Sx} {p : Nat} (h : Chain b pre p) : ∃ f, b.length - p ≤ f ∧ allF b = allFrom b f p (pre.map (·.f)) := by
  induction h with
  | nil => exact ⟨b.length, by omega, rfl⟩
  | snoc hc hp he hf ih =>
    obtain ⟨f, h1, h2⟩ := ih
    obtain ⟨g, h3, h4⟩ := allFrom_ok (acc := _) hp h1 hx he
    refine ⟨g, h3, ?_⟩
    rw [h2, h4, List.map_append, List.map_singleton, hf]
theorem chain_len {b : List Nat} (hx : ∀ x ∈ b, x < 256) {pre : List Sx} {p : Nat} (h : Chain b pre p) : pre.length ≤ p ∧ p ≤ b.length := by
  induction h with
  | nil => exact ⟨Nat.le_refl _, Nat.zero_le _⟩
  | snoc hc hp he hf ih =>
    have := rdF_size _ (fun x h => hx x (List.mem_of_mem_drop h)) he
    rw [List.length_drop] at this
    rw [List.length_append, List.length_singleton]
    omega
theorem rdF_bs (l : List Nat) : (rdF l).1.bs.length ≤ l.length := by
  unfold rdF
  split
  · simp
  · show (if (lk l).2.1 = 2 then (l.drop (lk l).2.2.2.1).take (lk l).2.2.2.2.1 else []).length ≤ l.length
    split
    · rw [List.length_take, List.length_drop]; omega
    · exact Nat.zero_le _
theorem chain_bs {b : List Nat} {pre : List Sx} {p : Nat} (h : Chain b pre p) : ∀ x ∈ pre, x.f.bs.length ≤ b.length := by
  induction h with
  | nil => intro x hx; cases hx
  | snoc hc hp he hf ih =>
    intro x hx
    rcases List.mem_append.1 hx with h | h
    · exact ih x h
    · rw [List.mem_singleton] at h
      subst h
      rw [hf]
      refine Nat.le_trans (rdF_bs _) ?_
      rw [List.length_drop]; omega

theorem Yx.grows {b : List Nat} {pre : List Sx} {x : Sx} {V V' : World} (h : Yx b pre x V) (hg : Grows V V') : Yx b pre x V' := by
  obtain ⟨p, y1, y2, y3, y4, y5, y6⟩ := h
  exact ⟨p, y1, y2, y3, y4, y5, y6.grows hg⟩
def pv (x : Sx) : Fld × Value := (x.f, x.bv)
/-- What stands while the fields are gathered; s is where the results' cells begin. -/
structure AllI (v : Value) (s : Nat) (w : World) (pre : List Sx) (W : World) : Prop where
  row : ∃ o, Boxed W (s + 3) 22 o ∧ W.ownsRow s 41 4 o pre.length (fcells (pre.map pv))
  own : ∀ x ∈ pre, OwnB W (x.f, x.bv)
  ok : ∀ x ∈ pre, x.err = 0
  r0 : Boxed W s 22 (.slice none 0 0)
  r1 : Boxed W (s + 1) 3 (.int .i64 0)
  r2 : Boxed W (s + 2) 25 (.int .i64 0)
  st : Boxed W (s + 4) 24 v
  bl : Below s w W
/-- What stands once a field has an error. -/
structure AllX (b : List Nat) (s : Nat) (w : World) (W : World) : Prop where
  res : ∃ (p er : Nat), allF b = ([], p, er) ∧ Boxed W s 22 (.slice none 0 0) ∧ Boxed W (s + 1) 3 (.int .i64 (p : Int)) ∧ Boxed W (s + 2) 25 (.int .i64 (er : Int))
  bl : Below s w W
theorem boxed_put {W : World} {B l : Nat} {t : TypeId} {v : Value} {o : Obj} (h : Boxed W B t v) (o' : Obj) (hl : W.heap[l]? = some o) (ho : o.isCells = false) : Boxed (W.putObj l o') B t v := by
  have hne : B ≠ l := fun e => by
    subst e
    rw [show W.heap[B]? = _ from h] at hl
    cases hl
    cases ho
  exact (World.putObj_heap_other hne).trans h
theorem AllI.grows {v : Value} {s : Nat} {w W C : World} {pre : List Sx} (h : AllI v s w pre W) (hg : Grows W C) : AllI v s w pre C := by
  obtain ⟨⟨o, h1, h2⟩, h3, h4, h5, h6, h7, h8, h9⟩ := h
  exact ⟨⟨o, hg.block h1, ownsRow_later h2 hg⟩, fun x hx => (h3 x hx).grows hg, h4, hg.block h5, hg.block h6, hg.block h7, hg.block h8, h9.trans (Below.mono hg (Nat.le_of_lt (Boxed.lt h5)))⟩
theorem AllI.turn {v : Value} {s B : Nat} {w W C : World} {pre : List Sx} (h : AllI v s w pre W) (hB : w.heap.size ≤ B) (hs : s = w.heap.size) (ht : Turn B W C) : AllI v s w pre C := by
  obtain ⟨⟨o, h1, h2⟩, h3, h4, h5, h6, h7, h8, h9⟩ := h
  obtain ⟨l, o1, o2, hl, ho, hc, hw, rfl⟩ := ht
  exact ⟨⟨o, boxed_put h1 _ ho hc, ownsRow_putObj h2 _ ho hc⟩, fun x hx => ownsRow_putObj (h3 x hx) _ ho hc, h4, boxed_put h5 _ ho hc, boxed_put h6 _ ho hc, boxed_put h7 _ ho hc, boxed_put h8 _ ho hc,
    h9.trans (belowK_b (w := w) (Nat.le_of_eq hs) W l _ _ (by omega) ho hc hw)⟩
theorem AllX.turn {b : List Nat} {s B : Nat} {w W C : World} (h : AllX b s w W) (hB : w.heap.size ≤ B) (hs : s = w.heap.size) (ht : Turn B W C) : AllX b s w C := by
  obtain ⟨⟨p, er, h1, h2, h3, h4⟩, h9⟩ := h
  obtain ⟨l, o1, o2, hl, ho, hc, hw, rfl⟩ := ht
  exact ⟨⟨p, er, h1, boxed_put h2 _ ho hc, boxed_put h3 _ ho hc, boxed_put h4 _ ho hc⟩, h9.trans (belowK_b (w := w) (Nat.le_of_eq hs) W l _ _ (by omega) ho hc hw)⟩
theorem KpS.turn {n Bn B : Nat} {w A C : World} (hB : w.heap.size ≤ B) (hs : n = w.heap.size) (hb : Bn < B) (ht : Turn B A C) : KpS n Bn A C := by
  obtain ⟨l, o1, o2, hl, ho, hc, hw, rfl⟩ := ht
  exact ⟨belowK_b (w := w) (Nat.le_of_eq hs) A l _ _ (by omega) ho hc hw, fun o h => (World.putObj_heap_other (by omega)).trans h⟩
theorem KpS.trans {n Bn : Nat} {A B C : World} (h : KpS n Bn A B) (k : KpS n Bn B C) : KpS n Bn A C := ⟨h.1.trans k.1, fun o ho => k.2 o (h.2 o ho)⟩
theorem cells6f {w : World} {b : Nat} {x y z u p q : Value} {T : TypeId} (h : w.heap[b]? = some (.cells #[x, y, z, u, p, q] T (0, 0))) :
    w.cell? ⟨b, 0, none⟩ = some x ∧ w.cell? ⟨b, 1, none⟩ = some y ∧ w.cell? ⟨b, 2, none⟩ = some z ∧ w.cell? ⟨b, 3, none⟩ = some u ∧ w.cell? ⟨b, 4, none⟩ = some p ∧ w.cell? ⟨b, 5, none⟩ = some q := by
  refine ⟨?_, ?_, ?_, ?_, ?_, ?_⟩ <;> simp [World.cell?, h]
theorem own_set {W : World} {B : Nat} {t T : TypeId} {u y v : Value} {base s n : Nat} {xs : List Value} (hb : Boxed W B t u) (h : W.ownsRow base T s v n xs) (hT : t ≠ T) : (W.setCell ⟨B, 0, none⟩ y).ownsRow base T s v n xs :=
  h.kept (grown_set W B 0 y) (.inr (hb.not_row hT h).symm)
theorem three_set {W : World} {s a b c : Nat} {ta tb tc : TypeId} {u v z : Value} (x y t : Value) (ha : Boxed W a ta u) (hb : Boxed W b tb v) (hc : Boxed W c tc z) (hab : a ≠ b) (hac : a ≠ c) (hbc : b ≠ c) (ka : s ≤ a) (kb : s ≤ b) (kc : s ≤ c) :
    Boxed (((W.drew.setCell ⟨a, 0, none⟩ x).setCell ⟨b, 0, none⟩ y).setCell ⟨c, 0, none⟩ t) a ta x ∧ Boxed (((W.drew.setCell ⟨a, 0, none⟩ x).setCell ⟨b, 0, none⟩ y).setCell ⟨c, 0, none⟩ t) b tb y ∧ Boxed (((W.drew.setCell ⟨a, 0, none⟩ x).setCell ⟨b, 0, none⟩ y).setCell ⟨c, 0, none⟩ t) c tc t ∧
      KeepsOthers W (((W.drew.setCell ⟨a, 0, none⟩ x).setCell ⟨b, 0, none⟩ y).setCell ⟨c, 0, none⟩ t) ∧ Below s W (((W.drew.setCell ⟨a, 0, none⟩ x).setCell ⟨b, 0, none⟩ y).setCell ⟨c, 0, none⟩ t) := by
  have ha' : Boxed W.drew a ta u := ha
  have hb' : Boxed W.drew b tb v := hb
  have hc' : Boxed W.drew c tc z := hc
  refine ⟨((ha'.set x).other hab _).other hac _, ((hb'.other hab.symm x).set y).other hbc _, ((hc'.other hac.symm x).other hbc.symm y).set t, ?_, ?_⟩
  · exact (((KeepsOthers.drew W).trans (KeepsOthers.setCell _ _ _)).trans (KeepsOthers.setCell _ _ _)).trans (KeepsOthers.setCell _ _ _)
  · have h0 : Below s W W.drew := ⟨rfl, rfl, rfl, Nat.le_refl _, fun _ _ => rfl⟩
    exact ((h0.setCell (p := ⟨a, 0, none⟩) ka x).setCell (p := ⟨b, 0, none⟩) kb y).setCell (p := ⟨c, 0, none⟩) kc t
theorem three_plain {W : World} {s a b c : Nat} {ta tb tc : TypeId} {u v z : Value} (x y t : Value) (ha : Boxed W a ta u) (hb : Boxed W b tb v) (hc : Boxed W c tc z) (hab : a ≠ b) (hac : a ≠ c) (hbc : b ≠ c) (ka : s ≤ a) (kb : s ≤ b) (kc : s ≤ c) :
    Boxed (((W.setCell ⟨a, 0, none⟩ x).setCell ⟨b, 0, none⟩ y).setCell ⟨c, 0, none⟩ t) a ta x ∧ Boxed (((W.setCell ⟨a, 0, none⟩ x).setCell ⟨b, 0, none⟩ y).setCell ⟨c, 0, none⟩ t) b tb y ∧ Boxed (((W.setCell ⟨a, 0, none⟩ x).setCell ⟨b, 0, none⟩ y).setCell ⟨c, 0, none⟩ t) c tc t ∧
      KeepsOthers W (((W.setCell ⟨a, 0, none⟩ x).setCell ⟨b, 0, none⟩ y).setCell ⟨c, 0, none⟩ t) ∧ Below s W (((W.setCell ⟨a, 0, none⟩ x).setCell ⟨b, 0, none⟩ y).setCell ⟨c, 0, none⟩ t) := by
  have ha' : Boxed W a ta u := ha
  have hb' : Boxed W b tb v := hb
  have hc' : Boxed W c tc z := hc
  refine ⟨((ha'.set x).other hab _).other hac _, ((hb'.other hab.symm x).set y).other hbc _, ((hc'.other hac.symm x).other hbc.symm y).set t, ?_, ?_⟩
  · exact ((KeepsOthers.setCell _ _ _).trans (KeepsOthers.setCell _ _ _)).trans (KeepsOthers.setCell _ _ _)
  · have h0 : Below s W W := ⟨rfl, rfl, rfl, Nat.le_refl _, fun _ _ => rfl⟩
    exact ((h0.setCell (p := ⟨a, 0, none⟩) ka x).setCell (p := ⟨b, 0, none⟩) kb y).setCell (p := ⟨c, 0, none⟩) kc t
theorem cell_four_new (W : World) (T : TypeId) (a b c d : Value) : ∀ j u, [a, b, c, d][j]? = some u → (W.alloc (.cells #[a, b, c, d] T)).cell? ((⟨W.heap.size, 0, none⟩ : Addr).add j) = some u := by
  intro j u h
  have hh : (W.alloc (.cells #[a, b, c, d] T)).heap[W.heap.size]? = some (.cells #[a, b, c, d] T (0, 0)) := heap_new _ _ _ rfl
  obtain ⟨c0, c1, c2, c3⟩ := cells4f hh
  rw [Tab.add_at, Nat.zero_add]
  match j with
  | 0 => cases h; exact c0
  | 1 => cases h; exact c1
  | 2 => cases h; exact c2
  | 3 => cases h; exact c3
  | j + 4 => simp at h
theorem AllI.push {v : Value} {s : Nat} {w W w1 : World} {pre : List Sx} {x : Sx} {o o2 : Value} {tmp : Obj} (h : AllI v s w pre W) (hrow : W.ownsRow s 41 4 o pre.length (fcells (pre.map pv))) (hx : OwnB W (x.f, x.bv)) (hz : x.err = 0)
    (hv1 : Boxed w1 (s + 3) 22 o) (hv2 : Boxed (w1.setCell ⟨s + 3, 0, none⟩ o2) (s + 3) 22 o2) (hr2 : (w1.setCell ⟨s + 3, 0, none⟩ o2).ownsRow s 41 4 o2 (pre.length + 1) (fcells (pre.map pv) ++ [.int .i64 x.f.num, .int .i64 x.f.kind, .int .u64 (x.f.n : Int), x.bv]))
    (hb2 : Below s W (w1.setCell ⟨s + 3, 0, none⟩ o2)) (hgrow : (W.alloc tmp).grownBy w1 o.ownBlock) (hs : s = w.heap.size) : AllI v s w (pre ++ [x]) (w1.setCell ⟨s + 3, 0, none⟩ o2) := by
  have kb : ∀ B t u, Boxed W B t u → t ≠ 41 → B ≠ s + 3 → Boxed (w1.setCell ⟨s + 3, 0, none⟩ o2) B t u := fun B t u hb ht hne => ((hb.alloc tmp).kept hgrow (hb.not_row ht hrow)).other hne _
  have ko : ∀ y, OwnB W y → OwnB (w1.setCell ⟨s + 3, 0, none⟩ o2) y := fun y hy => own_set hv1 (own_other (ownsRow_later hrow (Grows.alloc W tmp)) (hy.grows (Grows.alloc W tmp)) (by decide) hgrow) (by decide)
  refine ⟨⟨o2, hv2, ?_⟩, ?_, ?_, kb _ _ _ h.r0 (by decide) (by omega), kb _ _ _ h.r1 (by decide) (by omega), kb _ _ _ h.r2 (by decide) (by omega), kb _ _ _ h.st (by decide) (by omega), h.bl.trans hb2⟩
  · rw [List.map_append, List.length_append]
    exact (fcells_snoc (pre.map pv) (pv x)).symm ▸ hr2
  · intro y hy
    rcases List.mem_append.1 hy with hy | hy
    · exact ko _ (h.own y hy)
    · rw [List.mem_singleton] at hy; subst hy; exact ko _ hx
  · intro y hy
    rcases List.mem_append.1 hy with hy | hy
    · exact h.ok y hy
    · rw [List.mem_singleton] at hy; subst hy; exact hz
/-- The step's box, and what was said of it. -/
def AllA (b : List Nat) (v : Value) (s : Nat) (pre : List Sx) (x : Sx) (a' : Act) (W : World) : Prop :=
  ∃ Bx, W.heap[Bx]? = some (.cells #[.int .i64 x.f.num, .int .i64 x.f.kind, .int .u64 (x.f.n : Int), x.bv, .int .i64 (x.place : Int), .int .i64 (x.err : Int)] 65 (0, 0)) ∧ s + 4 < Bx ∧ Yx b pre x W ∧
    a' = { tmps := #[v, undef, .pointer (some ⟨s, 0, none⟩), .pointer (some ⟨s + 1, 0, none⟩), .pointer (some ⟨s + 2, 0, none⟩), .pointer (some ⟨s + 3, 0, none⟩), .pointer (some ⟨Bx, 0, none⟩), v,
      .func (.func 37) #[] #[.pointer (some ⟨s + 4, 0, none⟩)], sxV x, undef, undef, undef, undef, undef, undef, undef, undef, undef, undef, undef, undef, undef], defers := [] }
theorem AllA.turn {b : List Nat} {v : Value} {s B : Nat} {pre : List Sx} {x : Sx} {a' : Act} {W C : World} (h : AllA b v s pre x a' W) (ht : Turn B W C) : AllA b v s pre x a' C := by
  obtain ⟨Bx, h1, h2, ⟨p, y1, y2, y3, y4, y5, y6⟩, h4⟩ := h
  obtain ⟨l, o1, o2, hl, ho, hc, hw, rfl⟩ := ht
  have hne : Bx ≠ l := fun e => by
    subst e
    rw [h1] at ho
    cases ho
    cases hc
  exact ⟨Bx, (World.putObj_heap_other hne).trans h1, h2, ⟨p, y1, y2, y3, y4, y5, ownsRow_putObj y6 _ ho hc⟩, h4⟩

set_option maxRecDepth 100000 in
set_option maxHeartbeats 4000000 in
theorem all_in (m : Nat) (hm : 3 ≤ m) (v : Value) (b : List Nat) (w : World) (hv : NumsAt .u8 w v b) (hx : ∀ x ∈ b, x < 256) (hl : b.length ≤ 1000000) :
    CallsIn Fence.wide m Try.prog 13 #[v] w fun e W' => ∃ u, e = .returned (.tuple #[u, .int .i64 ((allF b).2.1 : Int), .int .i64 ((allF b).2.2 : Int)]) ∧ FldsAt W' u (allF b).1 ∧ Below w.heap.size w W' := by
  have h1 : 1 ≤ m := by omega
  obtain ⟨i0, hi0, hz0, hz1, hz2⟩ := info_parts infoF
  obtain ⟨av, cv, rfl⟩ := hv.shape
  obtain ⟨bl, hbl⟩ : ∃ n, n = b.length := ⟨_, rfl⟩
  rw [← hbl] at hv ⊢
  have HBL := Lib.hid hbl
  clear hbl
  refine callsIn_of_wp_marks Try.func13 rfl trivial ?_ rfl
  simp only [Try.ntmps13, List.size_toArray, List.length_cons, List.length_nil, Nat.reduceAdd, Nat.reduceSub, Array.replicate_succ, Array.replicate_zero, List.push_toArray, List.append_toArray, List.nil_append, List.cons_append]
  gi_wp2_with (refine ⟨trivial, ?_⟩; gi_at_call 28; refine (callsIn_wide.2 (steps_any _ _ _ _)).mono ?_; rintro e w' ⟨rfl, rfl⟩)
  simp only [Nat.add_assoc, Nat.reduceAdd]
  obtain ⟨W0, hW0⟩ : ∃ W0, (((((w.alloc (.cells #[.slice none 0 0] 22)).alloc (.cells #[.int .i64 0] 3)).alloc (.cells #[.int .i64 0] 25)).alloc (.cells #[.slice none 0 0] 22)).alloc (.cells #[.slice av bl cv] 24)) = W0 := ⟨_, rfl⟩
  have hsz : W0.heap.size = w.heap.size + 5 := by rw [← hW0]; simp
  have hI0 : AllI (.slice av bl cv) w.heap.size w [] W0 := by
    rw [← hW0]
    have g : ∀ (A : World) (o : Obj) (k : Nat) (t : TypeId) (u : Value), Boxed A k t u → Boxed (A.alloc o) k t u := fun A o k t u h => h.alloc o
    have n : ∀ (A : World) (k : Nat) (t : TypeId) (u : Value), k = A.heap.size → Boxed (A.alloc (.cells #[u] t)) k t u := fun A k t u e => by rw [e]; exact Boxed.new A t u
    refine ⟨⟨_, g _ _ _ _ _ (n _ _ _ _ (by simp)), World.ownsRow_nil _ _ _ _⟩, (fun x hx => by cases hx), (fun x hx => by cases hx), ?_, ?_, ?_, ?_, ?_⟩
    · exact g _ _ _ _ _ (g _ _ _ _ _ (g _ _ _ _ _ (g _ _ _ _ _ (n _ _ _ _ rfl))))
    · exact g _ _ _ _ _ (g _ _ _ _ _ (g _ _ _ _ _ (n _ _ _ _ (by simp))))
    · exact g _ _ _ _ _ (g _ _ _ _ _ (n _ _ _ _ (by simp)))
    · exact n _ _ _ _ (by simp)
    · exact ((((((Grows.refl w).al _).al _).al _).al _).al _ : Grows w _)
  rw [hW0]
  clear hW0
  refine wide_rangeY (gf := 37) (lb := #[.pointer (some ⟨w.heap.size + 4, 0, none⟩)]) rfl (enters_of Try.func37 (by kernel_rfl) rfl) (encs := fun x => #[sxV x]) (fun _ => rfl)
    (Y := Yx b) (Kp := KpS w.heap.size (w.heap.size + 4)) (S := fun (ys : List Sx) => (∃ p, Chain b ys p ∧ b.length ≤ p) ∨ ∃ (pre : List Sx) (x : Sx), ys = pre ++ [x] ∧ x.err ≠ 0) (Sp := fun _ => True)
    (fun l J Jx W hW hJ hY h0 => steps1_in (m - 1) (by omega) l (w.heap.size + 4) (.slice av bl cv) b w hv hx hl J Jx hJ hY W (Below.trans hI0.bl (Below.mono hW (by omega))) (hW.block hI0.st) h0)
    KpS.trans (fun A C ht => KpS.turn (w := w) (by omega) rfl (by omega) ht)
    (AllI (.slice av bl cv) w.heap.size w) (fun _ => AllX b w.heap.size w) (AllA b (.slice av bl cv) w.heap.size)
    (fun _ _ _ h hg => h.grows hg) (fun _ _ _ h ht => h.turn (by omega) rfl ht) (fun _ _ _ h ht => h.turn (by omega) rfl ht) (fun _ _ _ _ _ h ht => h.turn ht) hI0 ?assign ?body ?done ?stop h1
  case assign =>
    rintro l pre ⟨⟨num, kind, fn, bs⟩, bv, place, err⟩ W K hI ⟨p, y1, y2, y3, y4, y5, y6⟩ hK
    have HI := Lib.hid hI
    have HK := Lib.hid hK
    have HY := Lib.hid (show Yx b pre ⟨⟨num, kind, fn, bs⟩, bv, place, err⟩ W from ⟨p, y1, y2, y3, y4, y5, y6⟩)
    obtain ⟨a2, c2, hs2, -⟩ := own_shape y6
    simp only at hs2
    have hs := hI.st.lt
    subst hs2
    clear y1 y2 y3 y4 y5 y6 hI hK
    unfold sxV
    simp only
    gi_wp2
    exact HK.out _ _ ((KeepsOthers.alloc _ _).from _) ⟨Below.mono (Grows.alloc W _) (by omega), fun o ho => (Grows.alloc W _).block ho⟩ (HI.out.grows (Grows.alloc _ _)) ⟨W.heap.size, heap_new _ _ _ rfl, hs, HY.out.grows (Grows.alloc _ _), rfl⟩
  case body =>
    rintro l pre ⟨⟨num, kind, fn, bs⟩, bv, place, err⟩ a' W hI ⟨Bx, hX, hBx, ⟨p, y1, y2, y3, y4, y5, y6⟩, rfl⟩
    simp only at y3 y4 y5 y6 hX
    obtain ⟨c0, c1, c2, c3, c4, c5⟩ := cells6f hX
    obtain ⟨a2, d2, hs2, -⟩ := own_shape y6
    simp only at hs2
    subst hs2
    have HI := Lib.hid hI
    have HX := Lib.hid hX
    have HC := Lib.hid y1
    have HO := Lib.hid y6
    have HF := Lib.hid y3
    have HP := Lib.hid y2
    have HE := Lib.hid y5
    subst y4
    clear hI hX y1 y2 y3 y5 y6
    unfold sxV
    simp only
    by_cases he : err = 0
    · have bz : ((err : Int) != 0) = false := by simp [he]
      have HZ := Lib.hid he
      clear he
      obtain ⟨⟨o, b3, hrow⟩, -, -, -, -, -, -, hB⟩ := HI.out
      have hc := b3.cell
      have HW := Lib.hid hrow
      have hle := HI.out.r0.lt
      have HLN : Hid (pre.length ≤ 1000000) := Lib.hid (by have := chain_len hx HC.out; omega)
      have HB3 := Lib.hid b3
      clear b3 hrow hB
      gi_wp2_with (gi_at_builtin; go_loud (refine wpListIn_append_own _ rfl _ _ 22 rfl w.heap.size 41 i0 _ 4 48 Try.underlying22 hi0 hz0 hz1 hz2 rfl (by decide) _ _ _ rfl (HW.out.alloc _) ⟨W.heap.size, 0, none⟩ 1 1 [.int .i64 num, .int .i64 kind, .int .u64 (fn : Int), .slice a2 bs.length d2] rfl rfl (cell_four_new _ _ _ _ _ _) (by simp [Value.oneCell']) (by have := HLN.out; unfold maxLen; omega) (by have := HLN.out; omega) (by simp; omega) ?_; intro v' w1 hown' hgrow _; obtain ⟨g', cap', rfl⟩ := ownsRow_succ hown'; obtain ⟨hv1, hv2, hr2, hk2, hb2⟩ := HB3.out.appended (by decide) HW.out (Nat.le_of_lt hle) (by omega) hown' hgrow; have HAI := Lib.hid (AllI.push (x := ⟨⟨num, kind, fn, bs⟩, .slice a2 bs.length d2, place, err⟩) HI.out HW.out HO.out HZ.out hv1 hv2 hr2 hb2 hgrow rfl); have hc1 := hv1.cell; have hf1 := hv1.frozen))
      exact ⟨hk2.from _, ⟨hb2, fun o' ho => by rw [show W.heap[w.heap.size + 4]? = _ from HI.out.st] at ho; cases ho; exact HAI.out.st⟩, HAI.out⟩
    · have bn : ((err : Int) != 0) = true := by simpa using he
      have HZ := Lib.hid he
      clear he
      have f0 := HI.out.r0.frozen
      have f1 := HI.out.r1.frozen
      have f2 := HI.out.r2.frozen
      have e0 := HI.out.r0.cell
      have e1 := HI.out.r1.cell
      have e2 := HI.out.r2.cell
      have HALL : Hid (allF b = ([], place, err)) := Lib.hid (by
        obtain ⟨f, g1, g2⟩ := chain_all hx HC.out
        rw [g2, allFrom_bad HP.out g1 (by rw [← HE.out]; exact HZ.out), ← HE.out])
      have n01 : w.heap.size ≠ w.heap.size + 1 := by omega
      have n02 : w.heap.size ≠ w.heap.size + 2 := by omega
      have n12 : w.heap.size + 1 ≠ w.heap.size + 2 := by omega
      have fin : ∀ (W' : World) (a' : Act), Boxed W' w.heap.size 22 (.slice none 0 0) → Boxed W' (w.heap.size + 1) 3 (.int .i64 (place : Int)) → Boxed W' (w.heap.size + 2) 25 (.int .i64 (err : Int)) → KeepsOthers W W' → Below w.heap.size W W' →
          endY W0.heap.size (KpS w.heap.size (w.heap.size + 4)) (AllI (.slice av bl cv) w.heap.size w) (fun _ => AllX b w.heap.size w) (pre ++ [⟨⟨num, kind, fn, bs⟩, .slice a2 bs.length d2, place, err⟩]) W .ret a' W' :=
        fun W' a' q0 q1 q2 qk qb => ⟨qk.from _, ⟨⟨place, err, HALL.out, q0, q1, q2⟩, HI.out.bl.trans qb⟩⟩
      have r0 := HI.out.r0
      have r1 := HI.out.r1
      have r2 := HI.out.r2
      have HF2 := Lib.hid fin
      have R0 := Lib.hid r0
      have R1 := Lib.hid r1
      have R2 := Lib.hid r2
      clear fin r0 r1 r2
      gi_wp2
      gi_region
      all_goals gi_wp2
      all_goals first
        | (obtain ⟨q0, q1, q2, qk, qb⟩ := three_set (s := w.heap.size) (.slice none 0 0) (.int .i64 (place : Int)) (.int .i64 (err : Int)) R0.out R1.out R2.out n01 n02 n12 (Nat.le_refl _) (Nat.le_succ _) (by omega); exact HF2.out _ _ q0 q1 q2 qk qb)
        | (obtain ⟨q0, q1, q2, qk, qb⟩ := three_set (s := w.heap.size) (.slice none 0 0) (.int .i64 (err : Int)) (.int .i64 (place : Int)) R0.out R2.out R1.out n02 n01 n12.symm (Nat.le_refl _) (by omega) (Nat.le_succ _); exact HF2.out _ _ q0 q2 q1 qk qb)
        | (obtain ⟨q0, q1, q2, qk, qb⟩ := three_set (s := w.heap.size) (.int .i64 (place : Int)) (.slice none 0 0) (.int .i64 (err : Int)) R1.out R0.out R2.out n01.symm n12 n02 (Nat.le_succ _) (Nat.le_refl _) (by omega); exact HF2.out _ _ q1 q0 q2 qk qb)
        | (obtain ⟨q0, q1, q2, qk, qb⟩ := three_set (s := w.heap.size) (.int .i64 (place : Int)) (.int .i64 (err : Int)) (.slice none 0 0) R1.out R2.out R0.out n12 n01.symm n02.symm (Nat.le_succ _) (by omega) (Nat.le_refl _); exact HF2.out _ _ q2 q0 q1 qk qb)
        | (obtain ⟨q0, q1, q2, qk, qb⟩ := three_set (s := w.heap.size) (.int .i64 (err : Int)) (.slice none 0 0) (.int .i64 (place : Int)) R2.out R0.out R1.out n02.symm n12.symm n01 (by omega) (Nat.le_refl _) (Nat.le_succ _); exact HF2.out _ _ q1 q2 q0 qk qb)
        | (obtain ⟨q0, q1, q2, qk, qb⟩ := three_set (s := w.heap.size) (.int .i64 (err : Int)) (.int .i64 (place : Int)) (.slice none 0 0) R2.out R1.out R0.out n12.symm n02.symm n01.symm (by omega) (Nat.le_succ _) (Nat.le_refl _); exact HF2.out _ _ q2 q1 q0 qk qb)
  case done =>
    rintro xs W hS hI hD
    have HI := Lib.hid hI
    obtain ⟨⟨o, b3, hrow⟩, -, -, -, -, -, -, -⟩ := hI
    obtain ⟨ao, co, rfl, -⟩ := own_shape hrow
    have HALL : Hid (∃ p, allF b = (xs.map (·.f), 0, 0) ∧ Chain b xs p) := Lib.hid (by
      rcases hS with ⟨p, hc, hp⟩ | ⟨pre, x, rfl, he⟩
      · obtain ⟨f, g1, g2⟩ := chain_all hx hc
        exact ⟨p, by rw [g2, allFrom_done hp], hc⟩
      · exact absurd (HI.out.ok x (by simp)) he)
    have HD := Lib.hid hD
    have HW := Lib.hid hrow
    have hc3 := b3.cell
    have f0 := HI.out.r0.frozen
    have f1 := HI.out.r1.frozen
    have f2 := HI.out.r2.frozen
    have e0 := HI.out.r0.cell
    have e1 := HI.out.r1.cell
    have e2 := HI.out.r2.cell
    clear hS hD b3 hrow
    gi_wp2
    obtain ⟨p, hAL, hCH⟩ := HALL.out
    obtain ⟨q0, q1, q2, qk, qb⟩ := three_plain (s := w.heap.size) (.slice ao xs.length co) (.int .i64 0) (.int .i64 0) HI.out.r0 HI.out.r1 HI.out.r2 (by omega) (by omega) (by omega) (Nat.le_refl _) (Nat.le_succ _) (by omega)
    have hK := qk.same _ _ HD.out rfl
    have ko : ∀ {T : TypeId} {base s n : Nat} {v : Value} {ys : List Value}, 22 ≠ T → 3 ≠ T → 25 ≠ T → W.ownsRow base T s v n ys → (((W.setCell ⟨w.heap.size, 0, none⟩ (.slice ao xs.length co)).setCell ⟨w.heap.size + 1, 0, none⟩ (.int .i64 0)).setCell ⟨w.heap.size + 2, 0, none⟩ (.int .i64 0)).ownsRow base T s v n ys := fun h1 h2 h3 h =>
      own_set (((HI.out.r2.other (by omega) _).other (by omega) _)) (own_set (HI.out.r1.other (by omega) _) (own_set HI.out.r0 h h1) h2) h3
    refine ⟨by simp, .inl ⟨_, _, rfl, run_takeDeferred hK, ?_⟩⟩
    refine ⟨.tuple #[.slice ao xs.length co, .int .i64 0, .int .i64 0], ?_, ?_⟩
    · have z0 := (boxed_put q0 (.deferred none) hK rfl).cell
      have z1 := (boxed_put q1 (.deferred none) hK rfl).cell
      have z2 := (boxed_put q2 (.deferred none) hK rfl).cell
      simp [results, Try.results13, go_sem, z0, z1, z2]
    · refine ⟨_, by rw [hAL]; rfl, ?_, (HI.out.bl.trans qb).trans (belowK_b (w := w) (Nat.le_refl _) _ W0.heap.size _ _ (by omega) hK rfl rfl)⟩
      rw [hAL]
      have h := own_flds (ps := xs.map pv) (ownsRow_putObj (ko (by decide) (by decide) (by decide) HW.out) (.deferred none) hK rfl) (by rw [List.length_map]) (fun q hq => by
        obtain ⟨x, hxx, rfl⟩ := List.mem_map.1 hq
        refine OwnB.nums (p := pv x) (ownsRow_putObj (ko (by decide) (by decide) (by decide) (HI.out.own x hxx)) (.deferred none) hK rfl) ?_
        have := chain_bs hCH x hxx
        show x.f.bs.length ≤ _
        omega)
      rw [List.map_map] at h
      exact h
  case stop =>
    rintro pre W - hXX hD
    have HX := Lib.hid hXX
    obtain ⟨⟨p, er, hA, q0, q1, q2⟩, -⟩ := hXX
    have HA := Lib.hid hA
    have HD := Lib.hid hD
    have e0 := q0.cell
    have e1 := q1.cell
    have e2 := q2.cell
    clear hA q0 q1 q2 hD
    gi_wp2
    refine ⟨by simp, .inl ⟨_, _, rfl, run_takeDeferred HD.out, ?_⟩⟩
    obtain ⟨⟨p', er', hA', q0, q1, q2⟩, hb'⟩ := AllX.turn HX.out (B := W0.heap.size) (by omega) rfl ⟨_, _, .deferred none, Nat.le_refl _, HD.out, rfl, rfl, rfl⟩
    refine ⟨.tuple #[.slice none 0 0, .int .i64 p', .int .i64 er'], ?_, ?_⟩
    · have z0 := q0.cell
      have z1 := q1.cell
      have z2 := q2.cell
      simp [results, Try.results13, go_sem, z0, z1, z2]
    · rw [hA']
      exact ⟨_, rfl, .inl ⟨⟨_, _, rfl, fun _ => rfl⟩, rfl⟩, hb'⟩

/-- The call hands back fields, a place, an error. -/
def RetAll (q : List Fld × Nat × Nat) (w : World) (e : Ending) (w' : World) : Prop := ∃ u, e = .returned (.tuple #[u, .int .i64 (q.2.1 : Int), .int .i64 (q.2.2 : Int)]) ∧ FldsAt w' u q.1 ∧ Grows w w'
theorem all_any (v : Value) (b : List Nat) (w : World) (hv : NumsAt .u8 w v b) (hx : ∀ x ∈ b, x < 256) (hl : b.length ≤ 1000000) : Calls Try.prog 13 #[v] w (RetAll (allF b) w) :=
  callsIn_wide.1 (all_in 3 (Nat.le_refl _) v b w hv hx hl)
end Go.Proofs.Ytdiciboaehdckaa
