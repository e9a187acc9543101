/-
  Layer 20: the tiles that show something of a box.
-/
import Derived.Test.YtfhohgemfojjmaaW7
import Derived.Test.YtfhohgemfojjmaaSm
namespace Go.Proofs.Ytfhohgemfojjmaa
open Go.RowKit Go.Tab Go.WideShapes Go.Shelf
attribute [local go_sem] Oper.semAt_some

theorem Grows.by_none {w w' : World} (h : Grows w w') : w.grownBy w' none := ⟨h.os, h.tape, h.output, h.size, fun k hk _ => Below.block h k hk⟩
theorem Grows.keeps {w w' : World} (h : Grows w w') : KeepsOthers w w' := KeepsOthers.of_grownBy (Grows.by_none h) (fun _ _ e => by cases e)
theorem Grows.kpb {w w' : World} (h : Grows w w') (b : Nat) : KpB b w w' := fun _ ho => h.block ho
theorem Grows.boxed {w w' : World} (h : Grows w w') {B : Nat} {t : TypeId} {v : Value} (hb : Boxed w B t v) : Boxed w' B t v := h.block hb
theorem Grows.below {n₀ : Nat} {w w' : World} (h : Grows w w') (hn : n₀ ≤ w.heap.size) : Below n₀ w w' := h.mono hn
/-- A block of cells, whatever is no cells turns. -/
theorem block_own {β : Type} (B : Nat) (f : β → Array Value) (t : TypeId) : Own (fun s W => W.heap[B]? = some (.cells (f s) t (0, 0))) := fun s X Y row hs hg hrow =>
  (hg.block B (Array.getElem?_eq_some_iff.1 hs).1 (fun e' => by obtain ⟨o, ho, hc⟩ := hrow B e'.symm; rw [hs] at ho; cases ho; cases hc)).trans hs
/-- A block stays where a row of another type grows. -/
theorem block_row {W W' : World} {B : Nat} {cs : Array Value} {t e : TypeId} {base size k : Nat} {v : Value} {xs : List Value} (h : W.heap[B]? = some (.cells cs t (0, 0))) (hte : t ≠ e) (hr : W.ownsRow base e size v k xs)
    {tmp : Obj} (hg : (W.alloc tmp).grownBy W' v.ownBlock) : W'.heap[B]? = some (.cells cs t (0, 0)) := by
  have h1 : (W.alloc tmp).heap[B]? = some (.cells cs t (0, 0)) := (Grows.alloc W tmp).block h
  refine (hg.block B (Array.getElem?_eq_some_iff.1 h1).1 ?_).trans h1
  rcases hr.2 with ⟨rfl, _⟩ | ⟨g, cap, cur, rfl, _, hgb, _⟩
  · simp [Value.ownBlock]
  · intro e'
    obtain rfl : B = g := by simpa [Value.ownBlock] using e'
    have := h.symm.trans hgb
    simp at this
    exact hte this.2
theorem block_set {W : World} {B b : Nat} {o : Obj} (h : W.heap[B]? = some o) (hne : B ≠ b) (u : Value) : (W.setCell ⟨b, 0, none⟩ u).heap[B]? = some o := ((grownBy_setCell' W b u).block B (Array.getElem?_eq_some_iff.1 h).1 (fun e => hne (by cases e; rfl))).trans h

def Yes : Prop := True
theorem yes : Yes := trivial
def openB (u b : BoxI) : Bool := decide (b.lx < u.hx) && decide (u.lx < b.hx) && decide (b.ly < u.hy) && decide (u.ly < b.hy)
def showT (buf : Int) (b : BoxI) (t : Tl) : Bool := winB t.1 t.2.1 t.2.2 buf && openB (winBox t.1 t.2.1 t.2.2 buf) b
/-- What is shown. -/
def shownL (z buf : Int) (b : BoxI) : List Tl := if b.right = true then (tilesL z).filter (showT buf b) else []
theorem filt_hit {p : Tl → Bool} (pre : List Tl) {x : Tl} (h : p x = true) : (pre ++ [x]).filter p = pre.filter p ++ [x] := by simp [h]
theorem filt_miss {p : Tl → Bool} (pre : List Tl) {x : Tl} (h : p x = false) : (pre ++ [x]).filter p = pre.filter p := by simp [h]

set_option maxRecDepth 100000 in
set_option maxHeartbeats 4000000 in
theorem wshown_in (m : Nat) (hm : 3 ≤ m) (z buf : Int) (b : BoxI) (w : World) :
    CallsIn Fence.wide m Try.prog 23 #[.int .i64 z, .int .i64 buf, bx b] w fun e W' => ∃ v, e = .returned v ∧ W'.ownsRow w.heap.size 23 3 v (shownL z buf b).length (flatT (shownL z buf b)) ∧ Below w.heap.size w W' := by
  have h1 : 1 ≤ m := by omega
  have hnn : wideN z * wideN z ≤ 256 := Nat.mul_le_mul (wide_le z) (wide_le z)
  obtain ⟨i0, hi, hz0, hz1, hz2⟩ := info_parts infoT
  have HR := Lib.hid (boxright_any b)
  obtain ⟨r, hr⟩ : ∃ r, r = b.right := ⟨_, rfl⟩
  have HS : Hid (shownL z buf b = if r = true then (tilesL z).filter (showT buf b) else []) := Lib.hid (by rw [hr]; rfl)
  rw [← hr] at HR
  generalize shownL z buf b = SL at HS ⊢
  have HP : Hid (∀ x : Tl, showT buf b x = (winB x.1 x.2.1 x.2.2 buf && openB (winBox x.1 x.2.1 x.2.2 buf) b)) := Lib.hid fun _ => rfl
  generalize showT buf b = p at HP HS
  obtain ⟨lx, ly, hx, hy⟩ := b
  clear hr
  refine callsIn_of_wp_marks Try.func23 rfl trivial ?_ rfl
  simp only [Try.ntmps23, List.size_toArray, List.length_cons, List.length_nil, Nat.reduceAdd, Nat.reduceSub, Array.replicate_succ, Array.replicate_zero, List.push_toArray, List.append_toArray, List.nil_append, List.cons_append]
  gi_wp2_with (refine ⟨trivial, ?_⟩; gi_at_call 38; refine (callsIn_wide.2 (HR.out _)).mono ?_; rintro e w' ⟨rfl, hg⟩)
  · cases r with
    | true => simp_all
    | false =>
      gi_wp2
      have hS : SL = [] := HS.out
      subst hS
      exact ⟨_, results_tmp rfl _ _ _, _, rfl, World.ownsRow_nil _ _ _ _, (((Below.refl _ w).alloc (Nat.le_refl _) _).alloc (by simp) _).trans (Grows.below hg (by simp; omega))⟩
  · cases r with
    | false => simp_all
    | true =>
    have hS : SL = (tilesL z).filter p := HS.out
    subst hS
    clear HS
    gi_wp2_with (refine ⟨trivial, ?_⟩; gi_at_call 35; refine (callsIn_wide.2 (tiles_any _ _)).mono ?_; rintro e w2 ⟨rfl, rfl⟩)
    have bF0 : Boxed w' w.heap.size 3 (.int .i64 buf) := hg.block ((Grows.alloc _ _).block (heap_new _ _ _ rfl))
    have bB0 : w'.heap[w.heap.size + 1]? = some (.cells #[.int .i64 lx, .int .i64 ly, .int .i64 hx, .int .i64 hy] 27 (0, 0)) := hg.block (heap_new _ _ _ (by simp only [World.size_alloc]))
    have hsB : w.heap.size + 2 ≤ w'.heap.size := by have := hg.size; simp at this; omega
    have hBw : Below w.heap.size w w' := (((Below.refl _ w).alloc (Nat.le_refl _) _).alloc (by simp) _).trans (Grows.below hg (by simp; omega))
    have bF := (bF0.alloc (.cells #[.slice none 0 0] 43)).alloc (.cells #[.int .i64 z] 3)
    have bB := (Grows.alloc (w'.alloc (.cells #[.slice none 0 0] 43)) (.cells #[.int .i64 z] 3)).block ((Grows.alloc w' (.cells #[.slice none 0 0] 43)).block bB0)
    have bO := (Boxed.new w' 43 (.slice none 0 0)).alloc (.cells #[.int .i64 z] 3)
    have bN := Boxed.new (w'.alloc (.cells #[.slice none 0 0] 43)) 3 (.int .i64 z)
    rw [World.size_alloc] at bN
    have hB0 : Below w.heap.size w ((w'.alloc (.cells #[.slice none 0 0] 43)).alloc (.cells #[.int .i64 z] 3)) := (hBw.alloc (by omega) _).alloc (by simp; omega) _
    have hsz : ((w'.alloc (.cells #[.slice none 0 0] 43)).alloc (.cells #[.int .i64 z] 3)).heap.size = w'.heap.size + 2 := by simp
    obtain ⟨W0, hW0⟩ : ∃ W0, (w'.alloc (.cells #[.slice none 0 0] 43)).alloc (.cells #[.int .i64 z] 3) = W0 := ⟨_, rfl⟩
    rw [hW0] at bO bN bF bB hB0 hsz ⊢
    clear hW0 bF0 bB0 hBw
    have hex : ∃ B, w'.heap.size = B := ⟨_, rfl⟩
    obtain ⟨B, hBe⟩ := hex
    rw [hBe] at bO bN hsB hsz ⊢
    clear hBe hg
    refine wpIn_rangeFunc_ownH rfl h1 (gf := 42) (lb := #[.pointer (some ⟨B + 1, 0, none⟩)]) rfl trivial (enters_of Try.func42 (by kernel_rfl) rfl)
      (tiles_stops (m - 1) (by omega) (B + 1) z W0 bN) KpB.trans (KpB.put (by omega)) (Below.refl _ _) (fun _ => rfl)
      (fun (pre : List Tl) W => ((((∃ v, Boxed W B 43 v ∧ W.ownsRow w.heap.size 23 3 v (pre.filter p).length (flatT (pre.filter p)) ∧ Yes) ∧ Boxed W (B + 1) 3 (.int .i64 z)) ∧ Boxed W w.heap.size 3 (.int .i64 buf)) ∧ W.heap[w.heap.size + 1]? = some (.cells #[.int .i64 lx, .int .i64 ly, .int .i64 hx, .int .i64 hy] 27 (0, 0))) ∧ Below w.heap.size w W)
      (fun _ _ _ => False)
      (OwnFrom.and (OwnFrom.and (OwnFrom.and (OwnFrom.and (Own.from (holdsRow_own w.heap.size B 43 23 3 (fun (pre : List Tl) => (pre.filter p).length) (fun pre => flatT (pre.filter p)) (fun _ _ => Yes)) _) (Own.from (boxed_own _ _ _) _)) (Own.from (boxed_own _ _ _) _)) (Own.from (block_own (w.heap.size + 1) (fun _ => #[.int .i64 lx, .int .i64 ly, .int .i64 hx, .int .i64 hy]) 27) _)) (ownFrom_below (Nat.le_refl _) (by omega)))
      (fun _ _ _ _ _ hs _ _ => hs)
      ⟨⟨⟨⟨⟨_, bO, World.ownsRow_nil _ _ _ _, yes⟩, bN⟩, bF⟩, bB⟩, hB0⟩
      (fun x a' W => ∃ Bx, B < Bx ∧ W.heap[Bx]? = some (.cells #[.int .i64 x.1, .int .i64 x.2.1, .int .i64 x.2.2] 23 (0, 0)) ∧ a' = { tmps := #[.int .i64 z, .int .i64 buf, bx ⟨lx, ly, hx, hy⟩, undef, .pointer (some ⟨w.heap.size, 0, none⟩), .pointer (some ⟨w.heap.size + 1, 0, none⟩), .slice none 0 0, .pointer (some ⟨B, 0, none⟩), .pointer (some ⟨Bx, 0, none⟩), undef, undef, bx ⟨lx, ly, hx, hy⟩, .bool true, .bool false, .int .i64 z, .func (.func 42) #[] #[.pointer (some ⟨B + 1, 0, none⟩)], tv x, undef, undef, undef, undef, undef, undef, undef, undef, undef, undef, undef, undef, undef, undef, undef, undef, undef, undef, undef, undef, undef, undef, undef, undef, undef, undef, undef, undef, undef, undef, undef, undef, undef, undef, undef, undef, undef, undef, undef, undef, undef, undef, undef, undef, undef, undef, undef, undef], defers := [] })
      (fun x a' _ X Y row hs hg hr => by
        obtain ⟨Bx, e1, e2, e3⟩ := hs
        exact ⟨Bx, e1, (hg.block Bx (Array.getElem?_eq_some_iff.1 e2).1 (fun e' => by obtain ⟨o, ho, hc⟩ := (hr Bx e'.symm).2; rw [e2] at ho; cases ho; cases hc)).trans e2, e3⟩)
      ?assign ?body ?done ?stop
    case assign =>
      rintro l pre x W K ⟨⟨⟨⟨⟨v, hv, hrow, -⟩, hz⟩, hF⟩, hX⟩, hB⟩ hK
      gi_wp2
      exact hK _ _ ((KeepsOthers.alloc _ _).from _) (KpB.alloc _ _ _) ⟨⟨⟨⟨⟨v, hv.alloc _, hrow.alloc _, yes⟩, hz.alloc _⟩, hF.alloc _⟩, (Grows.alloc _ _).block hX⟩, hB.alloc hB.size _⟩ ⟨W.heap.size, hv.lt, heap_new _ _ _ rfl, rfl⟩
    case body =>
      rintro l pre x a' W hl ⟨r, hr⟩ ⟨⟨⟨⟨⟨v, hv, hrow, -⟩, hz⟩, hF⟩, hX⟩, hB⟩ ⟨Bx, hBx, hT, rfl⟩ hlt
      have HPX := Lib.hid (HP.out x)
      have HSZ := Lib.hid hsz
      clear hsz
      have HC := Lib.hid (window_any x.1 x.2.1 x.2.2 buf)
      have Hhit := Lib.hid (fun h => filt_hit (p := p) pre (x := x) h)
      have Hmiss := Lib.hid (fun h => filt_miss (p := p) pre (x := x) h)
      generalize p x = px at HPX Hhit Hmiss
      generalize winBox x.1 x.2.1 x.2.2 buf = u at HC HPX
      generalize winB x.1 x.2.1 x.2.2 buf = t at HC HPX
      obtain ⟨ulx, uly, uhx, uhy⟩ := u
      have hpl : (pre.filter p).length ≤ pre.length := List.length_filter_le _ _
      have hcF := hF.cell
      obtain ⟨t0, t1, t2⟩ := cells3 hT
      gi_wp2_with fail
      refine ⟨trivial, (fun _ => by omega), ?_⟩
      refine (CallsIn.inRound l (callsIn_wide.2 (HC.out _))).mono ?_
      rintro _ w3 ⟨rfl, hg3⟩
      have hle3 := hg3.size
      have hv3 := Grows.boxed hg3 hv
      have hrow3 := ownsRow_later hrow hg3
      have HZ := Lib.hid (Grows.boxed hg3 hz)
      have HZW := Lib.hid hz
      have HF := Lib.hid (Grows.boxed hg3 hF)
      have HX := Lib.hid (hg3.block hX)
      have HT := Lib.hid (hg3.block hT)
      have HB := Lib.hid (hB.trans (Grows.below hg3 hB.size))
      have hle := hB.size
      have HK3 := Lib.hid ((Grows.keeps hg3).from W0.heap.size)
      have HK4 := Lib.hid (Grows.kpb hg3 (B + 1))
      clear hg3 hv hrow hz hF hX hT hB hcF t0 t1 t2 hr
      cases t with
      | false =>
        gi_wp2
        have hpx : px = false := by rw [HPX.out]; rfl
        exact ⟨HK3.out.trans ((KeepsOthers.alloc _ _).from _), HK4.out.trans (KpB.alloc _ _ _), ⟨⟨⟨⟨v, hv3.alloc _, by rw [Hmiss.out hpx]; exact hrow3.alloc _, yes⟩, HZ.out.alloc _⟩, HF.out.alloc _⟩, (Grows.alloc _ _).block HX.out⟩, HB.out.alloc (by omega) _⟩
      | true =>
        have hv4 := hv3.alloc (.cells #[.int .i64 ulx, .int .i64 uly, .int .i64 uhx, .int .i64 uhy] 27)
        have hrow4 := hrow3.alloc (.cells #[.int .i64 ulx, .int .i64 uly, .int .i64 uhx, .int .i64 uhy] 27)
        have HZ4 := Lib.hid (HZ.out.alloc (.cells #[.int .i64 ulx, .int .i64 uly, .int .i64 uhx, .int .i64 uhy] 27))
        have HF4 := Lib.hid (HF.out.alloc (.cells #[.int .i64 ulx, .int .i64 uly, .int .i64 uhx, .int .i64 uhy] 27))
        have HX4 := Lib.hid ((Grows.alloc w3 (.cells #[.int .i64 ulx, .int .i64 uly, .int .i64 uhx, .int .i64 uhy] 27)).block HX.out)
        have HB4 := Lib.hid (HB.out.alloc (by omega) (.cells #[.int .i64 ulx, .int .i64 uly, .int .i64 uhx, .int .i64 uhy] 27))
        have HK5 := Lib.hid (HK3.out.trans ((KeepsOthers.alloc w3 (.cells #[.int .i64 ulx, .int .i64 uly, .int .i64 uhx, .int .i64 uhy] 27)).from W0.heap.size))
        have hsz4 : (w3.alloc (.cells #[.int .i64 ulx, .int .i64 uly, .int .i64 uhx, .int .i64 uhy] 27)).heap.size = w3.heap.size + 1 := by simp
        have cN := cell_three_new (w3.alloc (.cells #[.int .i64 ulx, .int .i64 uly, .int .i64 uhx, .int .i64 uhy] 27)) 23 (.int .i64 x.1) (.int .i64 x.2.1) (.int .i64 x.2.2)
        rw [hsz4] at cN
        have HN := Lib.hid cN
        obtain ⟨x0, x1, x2, x3⟩ := cells4 HX4.out
        obtain ⟨t0, t1, t2⟩ := cells3 ((Grows.alloc w3 (.cells #[.int .i64 ulx, .int .i64 uly, .int .i64 uhx, .int .i64 uhy] 27)).block HT.out)
        have hc3 := hv4.cell
        have hltB := hv3.lt
        clear cN hsz4
        have DD : (∃ h : True, lx < uhx ∧ ulx < hx ∧ ly < uhy ∧ uly < hy) ∨ ¬ (lx < uhx ∧ ulx < hx ∧ ly < uhy ∧ uly < hy) := by
          by_cases h : lx < uhx ∧ ulx < hx ∧ ly < uhy ∧ uly < hy
          · exact .inl ⟨trivial, h⟩
          · exact .inr h
        rcases DD with ⟨_, d1, d2, d3, d4⟩ | dd
        · have hpx : px = true := by rw [HPX.out]; simp [openB, d1, d2, d3, d4]
          have HE := Lib.hid (Hhit.out hpx)
          clear HPX Hhit Hmiss hpx
          gi_wp2_with (gi_at_builtin; refine wpListIn_append_own _ rfl _ _ 43 rfl w.heap.size 23 i0 _ 3 24 Try.underlying43 hi hz0 hz1 hz2 rfl (by decide) _ _ _ rfl (hrow4.alloc _) ⟨w3.heap.size + 1, 0, none⟩ 1 1 [.int .i64 x.1, .int .i64 x.2.1, .int .i64 x.2.2] rfl rfl HN.out (by simp [Value.oneCell']) (by unfold maxLen; omega) (by omega) (by simp; omega) ?_; intro v' w1 hown' hgrow _; obtain ⟨g', cap', rfl⟩ := ownsRow_succ hown'; obtain ⟨hv1, hv2, hr2, hk2, hb2⟩ := hv4.appended (n₀ := w.heap.size) (by decide) hrow4 (by simp; omega) (by omega) hown' hgrow; have HZ1 := Lib.hid ((HZ4.out.alloc _).kept hgrow (HZ4.out.not_row (by decide) hrow4)); have HF1 := Lib.hid ((HF4.out.alloc _).kept hgrow (HF4.out.not_row (by decide) hrow4)); have HX1 := Lib.hid (block_row HX4.out (by decide) hrow4 hgrow); have hc1 := hv1.cell; have hf1 := hv1.frozen)
          exact ⟨HK5.out.trans (hk2.from _), fun o ho => by rw [show W.heap[B + 1]? = _ from HZW.out] at ho; cases ho; exact HZ1.out.other (by omega) _, ⟨⟨⟨⟨_, hv2, by rw [HE.out, flatT_snoc, List.length_append]; simpa using hr2, yes⟩, HZ1.out.other (by omega) _⟩, HF1.out.other (by omega) _⟩, block_set HX1.out (by omega) _⟩, HB4.out.trans hb2⟩
        · have hpx : px = false := by rw [HPX.out, ← Bool.not_eq_true]; simp [openB]; omega
          have HE := Lib.hid (Hmiss.out hpx)
          have Hdd := Lib.hid dd
          clear HPX Hhit Hmiss hpx dd
          gi_wp2_with (gi_at_builtin; exfalso; have hq := Hdd.out; omega)
          all_goals exact ⟨HK5.out, HK4.out.trans (KpB.alloc _ _ _), ⟨⟨⟨⟨v, hv4, by rw [HE.out]; exact hrow4, yes⟩, HZ4.out⟩, HF4.out⟩, HX4.out⟩, HB4.out⟩
    case done =>
      rintro D ys W hD rfl ⟨⟨⟨⟨⟨v, hv, hrow, -⟩, -⟩, -⟩, -⟩, hB⟩ hK
      have hc := hv.cell
      gi_wp2
      refine ⟨by simp, .inl ⟨_, _, rfl, run_takeDeferred hK, ?_⟩⟩
      exact ⟨_, results_tmp rfl _ _ _, v, rfl, ownsRow_putObj hrow _ hK rfl, hB.trans (belowK_b (w := w) (Nat.le_refl _) W D _ _ (by omega) hK rfl rfl)⟩
    case stop =>
      rintro D c pre W _ _ h _
      exact h.elim

theorem wshown_any (z buf : Int) (b : BoxI) (w : World) : Calls Try.prog 23 #[.int .i64 z, .int .i64 buf, bx b] w fun e W' => ∃ v, e = .returned v ∧ W'.ownsRow w.heap.size 23 3 v (shownL z buf b).length (flatT (shownL z buf b)) ∧ Grows w W' :=
  callsIn_wide.1 (wshown_in 3 (Nat.le_refl _) z buf b w)
end Go.Proofs.Ytfhohgemfojjmaa
