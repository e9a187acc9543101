/-
  Layer 22: has any edge a point strictly within? the document's answer, of a contract for one edge.
-/
import Derived.Test.YtlkihbehiojimaaK25
import Derived.Test.YtlkihbehiojimaaBk
namespace Go.Proofs.Ytlkihbehiojimaa
open Go.RowKit Go.Tab

theorem i64w (n : Int) : IntKind.i64.wrap n = wrap64 n := by simp [IntKind.wrap, wrap64, IntKind.bits, IntKind.signed]; try omega
def redge (b : BoxI) (p q : Int × Int) : Bool := !(decide (p.1 = q.1 ∧ p.2 = q.2)) && mayB p.1 p.2 && mayB q.1 q.2 && b.right && insideB p.1 p.2 q.1 q.2 b
def rmeetsF (l : List (Int × Int)) (b : BoxI) : Bool := (List.range (l.length - 1)).any fun i => redge b (gp l i) (gp l (i + 1))
theorem redge_yes {b : BoxI} {l : List (Int × Int)} {i : Nat} (hi : i + 1 < l.length) (h : redge b (gp l i) (gp l (i + 1)) = true) : rmeetsF l b = true := List.any_eq_true.2 ⟨i, List.mem_range.2 (by omega), h⟩
theorem redge_no {b : BoxI} {l : List (Int × Int)} (h : ∀ i, i + 1 < l.length → redge b (gp l i) (gp l (i + 1)) = false) : rmeetsF l b = false := by
  unfold rmeetsF
  rw [List.any_eq_false]
  intro i hi
  rw [List.mem_range] at hi
  rw [h i (by omega)]
  simp
theorem redge_eq (b : BoxI) (p q : Int × Int) : redge b p q = (wideB b && edgeM b p q) := by
  unfold redge edgeM wideB
  by_cases hne : p.1 = q.1 ∧ p.2 = q.2
  · simp [hne]
  · rw [inside_eq hne]
    by_cases hr : b.right = true
    · have h1 := (BoxI.right_iff.1 hr).2.2
      have e1 : decide (b.lx < b.hx) = !decide (b.lx = b.hx) := by rw [← decide_not]; exact decide_eq_decide.2 (by omega)
      have e2 : decide (b.ly < b.hy) = !decide (b.ly = b.hy) := by rw [← decide_not]; exact decide_eq_decide.2 (by omega)
      rw [e1, e2, hr, decide_eq_false hne, Bool.not_or]
      generalize (!decide (b.lx = b.hx)) = x1
      generalize (!decide (b.ly = b.hy)) = x2
      cases x1 <;> cases x2 <;> simp [Bool.and_assoc]
    · have hr' : b.right = false := by simpa using hr
      rw [hr']
      simp
theorem rmeets_eq (l : List (Int × Int)) (b : BoxI) : rmeetsF l b = meetsF l b := by
  unfold rmeetsF meetsF anyEdge
  cases hw : wideB b with
  | false => rw [Bool.false_and, List.any_eq_false]; intro i _; rw [redge_eq, hw]; simp
  | true => rw [Bool.true_and]; congr 1; funext i; rw [redge_eq, hw, Bool.true_and]

set_option maxRecDepth 100000 in
set_option maxHeartbeats 8000000 in
theorem rmeets_of (HIN : Hid (∀ (px py qx qy : Int) (b : BoxI) (w : World), ¬ (px = qx ∧ py = qy) → mayB px py = true → mayB qx qy = true → b.right = true → Calls Try.prog 35 #[pt px py, pt qx qy, bx b] w (Ret (.bool (insideB px py qx qy b)) w)))
    (u : Value) (l : List (Int × Int)) (b : BoxI) (w : World) (hu : PtsAt w u l) (hn : l.length ≤ 1000) :
    Calls Try.prog 18 #[u, bx b] w (Ret (.bool (rmeetsF l b)) w) := by
  obtain ⟨a, c, rfl, hnc, -⟩ := hu.shape
  have HU := Lib.hid hu
  obtain ⟨n, hln⟩ : ∃ n, n = l.length := ⟨_, rfl⟩
  rw [← hln] at hn hnc HU ⊢
  have HN := Lib.hid hln
  clear hu hln
  obtain ⟨lx, ly, hx, hy⟩ := b
  have BX : Hid (∀ w', Grows (w.alloc (.cells #[.int .i64 lx, .int .i64 ly, .int .i64 hx, .int .i64 hy] 32)) w' →
      w'.cell? ⟨w.heap.size, 0, none⟩ = some (.int .i64 lx) ∧ w'.cell? ⟨w.heap.size, 1, none⟩ = some (.int .i64 ly) ∧ w'.cell? ⟨w.heap.size, 2, none⟩ = some (.int .i64 hx) ∧ w'.cell? ⟨w.heap.size, 3, none⟩ = some (.int .i64 hy)) := Lib.hid fun w' hg => cells4 (hg.block (heap_new _ _ _ rfl))
  go_enter Try.func18, Try.ntmps18
  go_wp2
  go_loopw [5] (fun i wr => ∃ k : Nat, i = .int .i64 ((k : Int) + 1) ∧ Hid (∀ j, j < k → redge ⟨lx, ly, hx, hy⟩ (gp l j) (gp l (j + 1)) = false) ∧ Hid (Grows (w.alloc (.cells #[.int .i64 lx, .int .i64 ly, .int .i64 hx, .int .i64 hy] 32)) wr)) (fun i _ => 1002 - (intOf i).toNat)
  case atStart => exact ⟨0, by simp, Lib.hid (fun j hj => by omega), Lib.hid (Grows.refl _)⟩
  case round =>
    obtain ⟨j, rfl, HB, G⟩ := hrel
    by_cases hjn1 : j + 1 < n
    · obtain ⟨ba, oa, rfl, hba, -, -⟩ := HU.out.at_ (i := j) (by rw [← HN.out]; omega)
      have hp0 : ∀ w', Grows wr w' → _ := fun w' (hg : Grows wr w') => (HU.out.grows (((Grows.refl w).al _).trans (G.out.trans hg))).at_cell (i := j) (by rw [← HN.out]; omega)
      have hq0 : ∀ w', Grows wr w' → _ := fun w' (hg : Grows wr w') => (HU.out.grows (((Grows.refl w).al _).trans (G.out.trans hg))).at_cell (i := j + 1) (by rw [← HN.out]; omega)
      have HED0 : ∀ p q : Int × Int, l.getD j (0, 0) = p → l.getD (j + 1) (0, 0) = q → redge ⟨lx, ly, hx, hy⟩ (gp l j) (gp l (j + 1)) = (!(decide (p.1 = q.1 ∧ p.2 = q.2)) && mayB p.1 p.2 && mayB q.1 q.2 && (BoxI.mk lx ly hx hy).right && insideB p.1 p.2 q.1 q.2 ⟨lx, ly, hx, hy⟩) := fun p q hp hq => by subst hp hq; rfl
      generalize hpe : l.getD j (0, 0) = p at hp0
      generalize hqe : l.getD (j + 1) (0, 0) = q at hq0
      have HED1 := Lib.hid (HED0 p q hpe hqe)
      clear HED0 hpe hqe
      obtain ⟨px, py⟩ := p
      obtain ⟨qx, qy⟩ := q
      simp only at hp0 hq0
      have CF : Hid (∀ w', Grows wr w' → (w'.cell? ⟨ba, oa + j * 2, none⟩ = some (.int .i64 px) ∧ w'.cell? ⟨ba, oa + j * 2 + 1, none⟩ = some (.int .i64 py)) ∧ (w'.cell? ⟨ba, oa + (j + 1) * 2, none⟩ = some (.int .i64 qx) ∧ w'.cell? ⟨ba, oa + (j + 1) * 2 + 1, none⟩ = some (.int .i64 qy)) ∧
        (w'.cell? ⟨w.heap.size, 0, none⟩ = some (.int .i64 lx) ∧ w'.cell? ⟨w.heap.size, 1, none⟩ = some (.int .i64 ly) ∧ w'.cell? ⟨w.heap.size, 2, none⟩ = some (.int .i64 hx) ∧ w'.cell? ⟨w.heap.size, 3, none⟩ = some (.int .i64 hy))) := Lib.hid fun w' hg => ⟨hp0 w' hg, hq0 w' hg, BX.out w' (G.out.trans hg)⟩
      clear hp0 hq0
      have H1 := Lib.hid (fun w => may_any px py w)
      have H2 := Lib.hid (fun w => may_any qx qy w)
      have H3 := Lib.hid (fun w => rboxright_any ⟨lx, ly, hx, hy⟩ w)
      have HIN4 := Lib.hid (fun h1 h2 h3 h4 w => HIN.out px py qx qy ⟨lx, ly, hx, hy⟩ w h1 h2 h3 h4)
      have HED : Hid (redge ⟨lx, ly, hx, hy⟩ (gp l j) (gp l (j + 1)) = (!(decide (px = qx ∧ py = qy)) && mayB px py && mayB qx qy && (BoxI.mk lx ly hx hy).right && insideB px py qx qy ⟨lx, ly, hx, hy⟩)) := HED1
      clear HED1
      obtain ⟨m1, e1⟩ : ∃ m, m = mayB px py := ⟨_, rfl⟩
      obtain ⟨m2, e2⟩ : ∃ m, m = mayB qx qy := ⟨_, rfl⟩
      obtain ⟨m3, e3⟩ : ∃ m, m = (BoxI.mk lx ly hx hy).right := ⟨_, rfl⟩
      obtain ⟨m4, e4⟩ : ∃ m, m = insideB px py qx qy ⟨lx, ly, hx, hy⟩ := ⟨_, rfl⟩
      rw [← e1] at H1 HED HIN4
      rw [← e2] at H2 HED HIN4
      rw [← e3] at H3 HED HIN4
      rw [← e4] at HED HIN4
      clear e1 e2 e3 e4
      have hjn : j < n := by omega
      have hs1 : (0 : Int) ≤ (j : Int) + 1 := Int.add_nonneg (Int.natCast_nonneg j) (by decide)
      have hs2 : ¬ ((n : Int) ≤ (j : Int) + 1) := fun h => absurd (Int.ofNat_le.1 (show ((n : Nat) : Int) ≤ ((j + 1 : Nat) : Int) from h)) (Nat.not_le.2 hjn1)
      have hwr : wrap64 (j : Int) = (j : Int) := by unfold wrap64; omega
      have C3 : (px = qx ∧ py = qy) ∨ px ≠ qx ∨ (px = qx ∧ py ≠ qy) := by by_cases h1 : px = qx <;> by_cases h2 : py = qy <;> simp [h1, h2]
      rcases C3 with ⟨rfl, rfl⟩ | e | ⟨rfl, e⟩
      · have HE := Lib.hid (HED.out.trans (by simp) : redge ⟨lx, ly, hx, hy⟩ (gp l j) (gp l (j + 1)) = false)
        go_wp2_with fail
        refine wp_region_tab 41 (by kernel_rfl) (by kernel_rfl) ?_
        intro w0 hw0 hg1 hg1'
        simp only [List.take_succ_cons, List.take_zero, List.drop_succ_cons, List.drop_zero]
        refine tab_val (.slice (some ⟨ba, oa, none⟩) n c) (fun r w1 hr hg hA => by obtain ⟨q0, -⟩ := hA; have q0e : r (.tmp 0) = .slice (some ⟨ba, oa, none⟩) n c := q0; exact ⟨rfl, by simp [go_sem, q0e]⟩) ?_
        refine tab_val (.int .i64 ((j : Int) + 1)) (fun r w1 hr hg hA => by obtain ⟨q0, -⟩ := hA; have q0e : r (.tmp 5) = .int .i64 ((j : Int) + 1) := q0; exact ⟨rfl, by simp [go_sem, q0e]⟩) ?_
        refine tab_val (.int .i64 (j : Int)) (fun r w1 hr hg hA => by obtain ⟨⟨_, q0⟩, -⟩ := hA; have q0e : r (.tmp 13) = .int .i64 ((j : Int) + 1) := q0; exact ⟨rfl, by simp [go_sem, hr.const, q0e, i64w, hwr]⟩) ?_
        refine tab_val (.pointer (some ⟨ba, oa + j * 2, none⟩)) (fun r w1 hr hg hA => by obtain ⟨⟨_, q0⟩, ⟨_, q1⟩, -⟩ := hA; have q0e : r (.tmp 12) = .slice (some ⟨ba, oa, none⟩) n c := q0; have q1e : r (.tmp 14) = .int .i64 (j : Int) := q1; exact ⟨rfl, by simp [go_sem, q0e, q1e, hjn]⟩) ?_
        refine tab_val (.agg #[.int .i64 px, .int .i64 py]) (fun r w1 hr hg hA => by obtain ⟨⟨_, q0⟩, -⟩ := hA; have q0e : r (.tmp 15) = .pointer (some ⟨ba, oa + j * 2, none⟩) := q0; have hc := CF.out w1 (hg1.trans hg); exact ⟨rfl, by simp [go_sem, q0e, hc]⟩) ?_
        refine tab_val (.slice (some ⟨ba, oa, none⟩) n c) (fun r w1 hr hg hA => by obtain ⟨q0, -⟩ := hA; have q0e : r (.tmp 0) = .slice (some ⟨ba, oa, none⟩) n c := q0; exact ⟨rfl, by simp [go_sem, q0e]⟩) ?_
        refine tab_val (.int .i64 ((j : Int) + 1)) (fun r w1 hr hg hA => by obtain ⟨q0, -⟩ := hA; have q0e : r (.tmp 5) = .int .i64 ((j : Int) + 1) := q0; exact ⟨rfl, by simp [go_sem, q0e]⟩) ?_
        refine tab_val (.pointer (some ⟨ba, oa + (j + 1) * 2, none⟩)) (fun r w1 hr hg hA => by obtain ⟨⟨_, q0⟩, ⟨_, q1⟩, -⟩ := hA; have q0e : r (.tmp 17) = .slice (some ⟨ba, oa, none⟩) n c := q0; have q1e : r (.tmp 18) = .int .i64 ((j : Int) + 1) := q1; exact ⟨rfl, by simp [go_sem, q0e, q1e, hs1, hs2]⟩) ?_
        refine tab_val (.agg #[.int .i64 px, .int .i64 py]) (fun r w1 hr hg hA => by obtain ⟨⟨_, q0⟩, -⟩ := hA; have q0e : r (.tmp 19) = .pointer (some ⟨ba, oa + (j + 1) * 2, none⟩) := q0; have hc := CF.out w1 (hg1.trans hg); exact ⟨rfl, by simp [go_sem, q0e, hc]⟩) ?_
        refine tab_val (.bool false) (fun r w1 hr hg hA => by obtain ⟨⟨_, q0⟩, ⟨_, q1⟩, -⟩ := hA; have q0e : r (.tmp 16) = .agg #[.int .i64 px, .int .i64 py] := q0; have q1e : r (.tmp 20) = .agg #[.int .i64 px, .int .i64 py] := q1; exact ⟨rfl, by simp [go_sem, q0e, q1e, ]⟩) ?_
        refine tab_val (.bool false) (fun r w1 hr hg hA => by obtain ⟨⟨_, q0⟩, -⟩ := hA; have q0e : r (.tmp 21) = .bool false := q0; exact ⟨rfl, by simp [go_sem, q0e]⟩) ?_
        refine tab_skip (fun r w1 hr hg hA => by obtain ⟨q0, ⟨_, q1⟩, -⟩ := hA; have q0e : r (.tmp 0) = .slice (some ⟨ba, oa, none⟩) n c := q0; have q1e : r (.tmp 22) = .bool false := q1; exact ⟨_, q1e, rfl⟩) ?_
        refine tab_skip (fun r w1 hr hg hA => by obtain ⟨q0, ⟨_, q1⟩, -⟩ := hA; have q0e : r (.tmp 5) = .int .i64 ((j : Int) + 1) := q0; have q1e : r (.tmp 22) = .bool false := q1; exact ⟨_, q1e, rfl⟩) ?_
        refine tab_skip (fun r w1 hr hg hA => by obtain ⟨⟨_, q0⟩, ⟨_, q1⟩, -⟩ := hA; have q0e : r (.tmp 24) = undef := q0; have q1e : r (.tmp 22) = .bool false := q1; exact ⟨_, q1e, rfl⟩) ?_
        refine tab_skip (fun r w1 hr hg hA => by obtain ⟨⟨_, q0⟩, ⟨_, q1⟩, ⟨_, q2⟩, -⟩ := hA; have q0e : r (.tmp 23) = undef := q0; have q1e : r (.tmp 25) = undef := q1; have q2e : r (.tmp 22) = .bool false := q2; exact ⟨_, q2e, rfl⟩) ?_
        refine tab_skip (fun r w1 hr hg hA => by obtain ⟨⟨_, q0⟩, ⟨_, q1⟩, -⟩ := hA; have q0e : r (.tmp 26) = undef := q0; have q1e : r (.tmp 22) = .bool false := q1; exact ⟨_, q1e, rfl⟩) ?_
        refine tab_skip (fun r w1 hr hg hA => by obtain ⟨⟨_, q0⟩, ⟨_, q1⟩, -⟩ := hA; have q0e : r (.tmp 27) = undef := q0; have q1e : r (.tmp 22) = .bool false := q1; exact ⟨_, q1e, rfl⟩) ?_
        refine tab_val (.bool false) (fun r w1 hr hg hA => by obtain ⟨⟨_, q0⟩, ⟨_, q1⟩, -⟩ := hA; have q0e : r (.tmp 22) = .bool false := q0; have q1e : r (.tmp 28) = undef := q1; exact ⟨rfl, by simp [go_sem, hr.const, q0e]⟩) ?_
        refine tab_val (.bool false) (fun r w1 hr hg hA => by obtain ⟨⟨_, q0⟩, -⟩ := hA; have q0e : r (.tmp 29) = .bool false := q0; exact ⟨rfl, by simp [go_sem, q0e]⟩) ?_
        refine tab_skip (fun r w1 hr hg hA => by obtain ⟨q0, ⟨_, q1⟩, -⟩ := hA; have q0e : r (.tmp 0) = .slice (some ⟨ba, oa, none⟩) n c := q0; have q1e : r (.tmp 30) = .bool false := q1; exact ⟨_, q1e, rfl⟩) ?_
        refine tab_skip (fun r w1 hr hg hA => by obtain ⟨q0, ⟨_, q1⟩, -⟩ := hA; have q0e : r (.tmp 5) = .int .i64 ((j : Int) + 1) := q0; have q1e : r (.tmp 30) = .bool false := q1; exact ⟨_, q1e, rfl⟩) ?_
        refine tab_skip (fun r w1 hr hg hA => by obtain ⟨⟨_, q0⟩, ⟨_, q1⟩, ⟨_, q2⟩, -⟩ := hA; have q0e : r (.tmp 31) = undef := q0; have q1e : r (.tmp 32) = undef := q1; have q2e : r (.tmp 30) = .bool false := q2; exact ⟨_, q2e, rfl⟩) ?_
        refine tab_skip (fun r w1 hr hg hA => by obtain ⟨⟨_, q0⟩, ⟨_, q1⟩, -⟩ := hA; have q0e : r (.tmp 33) = undef := q0; have q1e : r (.tmp 30) = .bool false := q1; exact ⟨_, q1e, rfl⟩) ?_
        refine tab_skip (fun r w1 hr hg hA => by obtain ⟨⟨_, q0⟩, ⟨_, q1⟩, -⟩ := hA; have q0e : r (.tmp 34) = undef := q0; have q1e : r (.tmp 30) = .bool false := q1; exact ⟨_, q1e, rfl⟩) ?_
        refine tab_val (.bool false) (fun r w1 hr hg hA => by obtain ⟨⟨_, q0⟩, ⟨_, q1⟩, -⟩ := hA; have q0e : r (.tmp 30) = .bool false := q0; have q1e : r (.tmp 35) = undef := q1; exact ⟨rfl, by simp [go_sem, hr.const, q0e]⟩) ?_
        refine tab_val (.bool false) (fun r w1 hr hg hA => by obtain ⟨⟨_, q0⟩, -⟩ := hA; have q0e : r (.tmp 36) = .bool false := q0; exact ⟨rfl, by simp [go_sem, q0e]⟩) ?_
        refine tab_skip (fun r w1 hr hg hA => by obtain ⟨q0, ⟨_, q1⟩, -⟩ := hA; have q0e : r (.tmp 3) = .pointer (some ⟨w.heap.size, 0, none⟩) := q0; have q1e : r (.tmp 37) = .bool false := q1; exact ⟨_, q1e, rfl⟩) ?_
        refine tab_skip (fun r w1 hr hg hA => by obtain ⟨⟨_, q0⟩, ⟨_, q1⟩, -⟩ := hA; have q0e : r (.tmp 38) = undef := q0; have q1e : r (.tmp 37) = .bool false := q1; exact ⟨_, q1e, rfl⟩) ?_
        refine tab_val (.bool false) (fun r w1 hr hg hA => by obtain ⟨⟨_, q0⟩, ⟨_, q1⟩, -⟩ := hA; have q0e : r (.tmp 37) = .bool false := q0; have q1e : r (.tmp 39) = undef := q1; exact ⟨rfl, by simp [go_sem, hr.const, q0e]⟩) ?_
        refine tab_val (.bool false) (fun r w1 hr hg hA => by obtain ⟨⟨_, q0⟩, -⟩ := hA; have q0e : r (.tmp 40) = .bool false := q0; exact ⟨rfl, by simp [go_sem, q0e]⟩) ?_
        refine tab_skip (fun r w1 hr hg hA => by obtain ⟨q0, ⟨_, q1⟩, -⟩ := hA; have q0e : r (.tmp 0) = .slice (some ⟨ba, oa, none⟩) n c := q0; have q1e : r (.tmp 41) = .bool false := q1; exact ⟨_, q1e, rfl⟩) ?_
        refine tab_skip (fun r w1 hr hg hA => by obtain ⟨q0, ⟨_, q1⟩, -⟩ := hA; have q0e : r (.tmp 5) = .int .i64 ((j : Int) + 1) := q0; have q1e : r (.tmp 41) = .bool false := q1; exact ⟨_, q1e, rfl⟩) ?_
        refine tab_skip (fun r w1 hr hg hA => by obtain ⟨⟨_, q0⟩, ⟨_, q1⟩, -⟩ := hA; have q0e : r (.tmp 43) = undef := q0; have q1e : r (.tmp 41) = .bool false := q1; exact ⟨_, q1e, rfl⟩) ?_
        refine tab_skip (fun r w1 hr hg hA => by obtain ⟨⟨_, q0⟩, ⟨_, q1⟩, ⟨_, q2⟩, -⟩ := hA; have q0e : r (.tmp 42) = undef := q0; have q1e : r (.tmp 44) = undef := q1; have q2e : r (.tmp 41) = .bool false := q2; exact ⟨_, q2e, rfl⟩) ?_
        refine tab_skip (fun r w1 hr hg hA => by obtain ⟨⟨_, q0⟩, ⟨_, q1⟩, -⟩ := hA; have q0e : r (.tmp 45) = undef := q0; have q1e : r (.tmp 41) = .bool false := q1; exact ⟨_, q1e, rfl⟩) ?_
        refine tab_skip (fun r w1 hr hg hA => by obtain ⟨q0, ⟨_, q1⟩, -⟩ := hA; have q0e : r (.tmp 0) = .slice (some ⟨ba, oa, none⟩) n c := q0; have q1e : r (.tmp 41) = .bool false := q1; exact ⟨_, q1e, rfl⟩) ?_
        refine tab_skip (fun r w1 hr hg hA => by obtain ⟨q0, ⟨_, q1⟩, -⟩ := hA; have q0e : r (.tmp 5) = .int .i64 ((j : Int) + 1) := q0; have q1e : r (.tmp 41) = .bool false := q1; exact ⟨_, q1e, rfl⟩) ?_
        refine tab_skip (fun r w1 hr hg hA => by obtain ⟨⟨_, q0⟩, ⟨_, q1⟩, ⟨_, q2⟩, -⟩ := hA; have q0e : r (.tmp 47) = undef := q0; have q1e : r (.tmp 48) = undef := q1; have q2e : r (.tmp 41) = .bool false := q2; exact ⟨_, q2e, rfl⟩) ?_
        refine tab_skip (fun r w1 hr hg hA => by obtain ⟨⟨_, q0⟩, ⟨_, q1⟩, -⟩ := hA; have q0e : r (.tmp 49) = undef := q0; have q1e : r (.tmp 41) = .bool false := q1; exact ⟨_, q1e, rfl⟩) ?_
        refine tab_skip (fun r w1 hr hg hA => by obtain ⟨q0, ⟨_, q1⟩, -⟩ := hA; have q0e : r (.tmp 3) = .pointer (some ⟨w.heap.size, 0, none⟩) := q0; have q1e : r (.tmp 41) = .bool false := q1; exact ⟨_, q1e, rfl⟩) ?_
        refine tab_skip (fun r w1 hr hg hA => by obtain ⟨⟨_, q0⟩, ⟨_, q1⟩, ⟨_, q2⟩, ⟨_, q3⟩, -⟩ := hA; have q0e : r (.tmp 46) = undef := q0; have q1e : r (.tmp 50) = undef := q1; have q2e : r (.tmp 51) = undef := q2; have q3e : r (.tmp 41) = .bool false := q3; exact ⟨_, q3e, rfl⟩) ?_
        refine tab_end ?_
        simp only [List.reverse_cons, List.reverse_nil, List.nil_append, List.cons_append, Out, BlockP, forall_eq, forall_const, Act.put, List.setIfInBounds_toArray, List.set_cons_succ, List.set_cons_zero]
        intro wA hgA
        have GA := Lib.hid (hg1.trans hgA)
        clear hg1 hgA hg1' hw0 hwr hs1 hs2
        go_wp2
        exact ⟨⟨j + 1, by simp, Lib.hid (fun i hi => (Nat.lt_succ_iff_lt_or_eq.1 hi).elim (fun h => HB.out i h) (fun h => by rw [h]; exact HE.out)), Lib.hid (G.out.trans GA.out)⟩, by simp only [intOf]; omega⟩
      · have hne : ¬ (px = qx ∧ py = qy) := fun h => e h.1
        have HIN4 := Lib.hid (HIN4.out hne)
        have HNE := Lib.hid (decide_eq_false hne)
        rw [HNE.out] at HED
        clear hne
        cases m1 with
        | false =>
          have HE := Lib.hid (HED.out.trans (by simp) : redge ⟨lx, ly, hx, hy⟩ (gp l j) (gp l (j + 1)) = false)
          go_wp2_with fail
          refine wp_region_tab 41 (by kernel_rfl) (by kernel_rfl) ?_
          intro w0 hw0 hg1 hg1'
          simp only [List.take_succ_cons, List.take_zero, List.drop_succ_cons, List.drop_zero]
          refine tab_val (.slice (some ⟨ba, oa, none⟩) n c) (fun r w1 hr hg hA => by obtain ⟨q0, -⟩ := hA; have q0e : r (.tmp 0) = .slice (some ⟨ba, oa, none⟩) n c := q0; exact ⟨rfl, by simp [go_sem, q0e]⟩) ?_
          refine tab_val (.int .i64 ((j : Int) + 1)) (fun r w1 hr hg hA => by obtain ⟨q0, -⟩ := hA; have q0e : r (.tmp 5) = .int .i64 ((j : Int) + 1) := q0; exact ⟨rfl, by simp [go_sem, q0e]⟩) ?_
          refine tab_val (.int .i64 (j : Int)) (fun r w1 hr hg hA => by obtain ⟨⟨_, q0⟩, -⟩ := hA; have q0e : r (.tmp 13) = .int .i64 ((j : Int) + 1) := q0; exact ⟨rfl, by simp [go_sem, hr.const, q0e, i64w, hwr]⟩) ?_
          refine tab_val (.pointer (some ⟨ba, oa + j * 2, none⟩)) (fun r w1 hr hg hA => by obtain ⟨⟨_, q0⟩, ⟨_, q1⟩, -⟩ := hA; have q0e : r (.tmp 12) = .slice (some ⟨ba, oa, none⟩) n c := q0; have q1e : r (.tmp 14) = .int .i64 (j : Int) := q1; exact ⟨rfl, by simp [go_sem, q0e, q1e, hjn]⟩) ?_
          refine tab_val (.agg #[.int .i64 px, .int .i64 py]) (fun r w1 hr hg hA => by obtain ⟨⟨_, q0⟩, -⟩ := hA; have q0e : r (.tmp 15) = .pointer (some ⟨ba, oa + j * 2, none⟩) := q0; have hc := CF.out w1 (hg1.trans hg); exact ⟨rfl, by simp [go_sem, q0e, hc]⟩) ?_
          refine tab_val (.slice (some ⟨ba, oa, none⟩) n c) (fun r w1 hr hg hA => by obtain ⟨q0, -⟩ := hA; have q0e : r (.tmp 0) = .slice (some ⟨ba, oa, none⟩) n c := q0; exact ⟨rfl, by simp [go_sem, q0e]⟩) ?_
          refine tab_val (.int .i64 ((j : Int) + 1)) (fun r w1 hr hg hA => by obtain ⟨q0, -⟩ := hA; have q0e : r (.tmp 5) = .int .i64 ((j : Int) + 1) := q0; exact ⟨rfl, by simp [go_sem, q0e]⟩) ?_
          refine tab_val (.pointer (some ⟨ba, oa + (j + 1) * 2, none⟩)) (fun r w1 hr hg hA => by obtain ⟨⟨_, q0⟩, ⟨_, q1⟩, -⟩ := hA; have q0e : r (.tmp 17) = .slice (some ⟨ba, oa, none⟩) n c := q0; have q1e : r (.tmp 18) = .int .i64 ((j : Int) + 1) := q1; exact ⟨rfl, by simp [go_sem, q0e, q1e, hs1, hs2]⟩) ?_
          refine tab_val (.agg #[.int .i64 qx, .int .i64 qy]) (fun r w1 hr hg hA => by obtain ⟨⟨_, q0⟩, -⟩ := hA; have q0e : r (.tmp 19) = .pointer (some ⟨ba, oa + (j + 1) * 2, none⟩) := q0; have hc := CF.out w1 (hg1.trans hg); exact ⟨rfl, by simp [go_sem, q0e, hc]⟩) ?_
          refine tab_val (.bool true) (fun r w1 hr hg hA => by obtain ⟨⟨_, q0⟩, ⟨_, q1⟩, -⟩ := hA; have q0e : r (.tmp 16) = .agg #[.int .i64 px, .int .i64 py] := q0; have q1e : r (.tmp 20) = .agg #[.int .i64 qx, .int .i64 qy] := q1; exact ⟨rfl, by simp [go_sem, q0e, q1e, e]⟩) ?_
          refine tab_val (.bool true) (fun r w1 hr hg hA => by obtain ⟨⟨_, q0⟩, -⟩ := hA; have q0e : r (.tmp 21) = .bool true := q0; exact ⟨rfl, by simp [go_sem, q0e]⟩) ?_
          refine tab_val (.slice (some ⟨ba, oa, none⟩) n c) (fun r w1 hr hg hA => by obtain ⟨q0, ⟨_, q1⟩, -⟩ := hA; have q0e : r (.tmp 0) = .slice (some ⟨ba, oa, none⟩) n c := q0; have q1e : r (.tmp 22) = .bool true := q1; exact ⟨⟨_, q1e, rfl⟩, by simp [go_sem, q0e]⟩) ?_
          refine tab_val (.int .i64 ((j : Int) + 1)) (fun r w1 hr hg hA => by obtain ⟨q0, ⟨_, q1⟩, -⟩ := hA; have q0e : r (.tmp 5) = .int .i64 ((j : Int) + 1) := q0; have q1e : r (.tmp 22) = .bool true := q1; exact ⟨⟨_, q1e, rfl⟩, by simp [go_sem, q0e]⟩) ?_
          refine tab_val (.int .i64 (j : Int)) (fun r w1 hr hg hA => by obtain ⟨⟨_, q0⟩, ⟨_, q1⟩, -⟩ := hA; have q0e : r (.tmp 24) = .int .i64 ((j : Int) + 1) := q0; have q1e : r (.tmp 22) = .bool true := q1; exact ⟨⟨_, q1e, rfl⟩, by simp [go_sem, hr.const, q0e, i64w, hwr]⟩) ?_
          refine tab_val (.pointer (some ⟨ba, oa + j * 2, none⟩)) (fun r w1 hr hg hA => by obtain ⟨⟨_, q0⟩, ⟨_, q1⟩, ⟨_, q2⟩, -⟩ := hA; have q0e : r (.tmp 23) = .slice (some ⟨ba, oa, none⟩) n c := q0; have q1e : r (.tmp 25) = .int .i64 (j : Int) := q1; have q2e : r (.tmp 22) = .bool true := q2; exact ⟨⟨_, q2e, rfl⟩, by simp [go_sem, q0e, q1e, hjn]⟩) ?_
          refine tab_val (.agg #[.int .i64 px, .int .i64 py]) (fun r w1 hr hg hA => by obtain ⟨⟨_, q0⟩, ⟨_, q1⟩, -⟩ := hA; have q0e : r (.tmp 26) = .pointer (some ⟨ba, oa + j * 2, none⟩) := q0; have q1e : r (.tmp 22) = .bool true := q1; have hc := CF.out w1 (hg1.trans hg); exact ⟨⟨_, q1e, rfl⟩, by simp [go_sem, q0e, hc]⟩) ?_
          refine tab_call (v := .bool false) (fun w1 hg => H1.out w1) (fun r w1 hr hg hA => by obtain ⟨⟨_, q0⟩, ⟨_, q1⟩, -⟩ := hA; have q0e : r (.tmp 27) = .agg #[.int .i64 px, .int .i64 py] := q0; have q1e : r (.tmp 22) = .bool true := q1; exact ⟨⟨_, q1e, rfl⟩, by simp [go_sem, hr.func, q0e]⟩) ?_
          refine tab_val (.bool false) (fun r w1 hr hg hA => by obtain ⟨⟨_, q0⟩, ⟨_, q1⟩, -⟩ := hA; have q0e : r (.tmp 22) = .bool true := q0; have q1e : r (.tmp 28) = .bool false := q1; exact ⟨rfl, by simp [go_sem, q0e, q1e]⟩) ?_
          refine tab_val (.bool false) (fun r w1 hr hg hA => by obtain ⟨⟨_, q0⟩, -⟩ := hA; have q0e : r (.tmp 29) = .bool false := q0; exact ⟨rfl, by simp [go_sem, q0e]⟩) ?_
          refine tab_skip (fun r w1 hr hg hA => by obtain ⟨q0, ⟨_, q1⟩, -⟩ := hA; have q0e : r (.tmp 0) = .slice (some ⟨ba, oa, none⟩) n c := q0; have q1e : r (.tmp 30) = .bool false := q1; exact ⟨_, q1e, rfl⟩) ?_
          refine tab_skip (fun r w1 hr hg hA => by obtain ⟨q0, ⟨_, q1⟩, -⟩ := hA; have q0e : r (.tmp 5) = .int .i64 ((j : Int) + 1) := q0; have q1e : r (.tmp 30) = .bool false := q1; exact ⟨_, q1e, rfl⟩) ?_
          refine tab_skip (fun r w1 hr hg hA => by obtain ⟨⟨_, q0⟩, ⟨_, q1⟩, ⟨_, q2⟩, -⟩ := hA; have q0e : r (.tmp 31) = undef := q0; have q1e : r (.tmp 32) = undef := q1; have q2e : r (.tmp 30) = .bool false := q2; exact ⟨_, q2e, rfl⟩) ?_
          refine tab_skip (fun r w1 hr hg hA => by obtain ⟨⟨_, q0⟩, ⟨_, q1⟩, -⟩ := hA; have q0e : r (.tmp 33) = undef := q0; have q1e : r (.tmp 30) = .bool false := q1; exact ⟨_, q1e, rfl⟩) ?_
          refine tab_skip (fun r w1 hr hg hA => by obtain ⟨⟨_, q0⟩, ⟨_, q1⟩, -⟩ := hA; have q0e : r (.tmp 34) = undef := q0; have q1e : r (.tmp 30) = .bool false := q1; exact ⟨_, q1e, rfl⟩) ?_
          refine tab_val (.bool false) (fun r w1 hr hg hA => by obtain ⟨⟨_, q0⟩, ⟨_, q1⟩, -⟩ := hA; have q0e : r (.tmp 30) = .bool false := q0; have q1e : r (.tmp 35) = undef := q1; exact ⟨rfl, by simp [go_sem, hr.const, q0e]⟩) ?_
          refine tab_val (.bool false) (fun r w1 hr hg hA => by obtain ⟨⟨_, q0⟩, -⟩ := hA; have q0e : r (.tmp 36) = .bool false := q0; exact ⟨rfl, by simp [go_sem, q0e]⟩) ?_
          refine tab_skip (fun r w1 hr hg hA => by obtain ⟨q0, ⟨_, q1⟩, -⟩ := hA; have q0e : r (.tmp 3) = .pointer (some ⟨w.heap.size, 0, none⟩) := q0; have q1e : r (.tmp 37) = .bool false := q1; exact ⟨_, q1e, rfl⟩) ?_
          refine tab_skip (fun r w1 hr hg hA => by obtain ⟨⟨_, q0⟩, ⟨_, q1⟩, -⟩ := hA; have q0e : r (.tmp 38) = undef := q0; have q1e : r (.tmp 37) = .bool false := q1; exact ⟨_, q1e, rfl⟩) ?_
          refine tab_val (.bool false) (fun r w1 hr hg hA => by obtain ⟨⟨_, q0⟩, ⟨_, q1⟩, -⟩ := hA; have q0e : r (.tmp 37) = .bool false := q0; have q1e : r (.tmp 39) = undef := q1; exact ⟨rfl, by simp [go_sem, hr.const, q0e]⟩) ?_
          refine tab_val (.bool false) (fun r w1 hr hg hA => by obtain ⟨⟨_, q0⟩, -⟩ := hA; have q0e : r (.tmp 40) = .bool false := q0; exact ⟨rfl, by simp [go_sem, q0e]⟩) ?_
          refine tab_skip (fun r w1 hr hg hA => by obtain ⟨q0, ⟨_, q1⟩, -⟩ := hA; have q0e : r (.tmp 0) = .slice (some ⟨ba, oa, none⟩) n c := q0; have q1e : r (.tmp 41) = .bool false := q1; exact ⟨_, q1e, rfl⟩) ?_
          refine tab_skip (fun r w1 hr hg hA => by obtain ⟨q0, ⟨_, q1⟩, -⟩ := hA; have q0e : r (.tmp 5) = .int .i64 ((j : Int) + 1) := q0; have q1e : r (.tmp 41) = .bool false := q1; exact ⟨_, q1e, rfl⟩) ?_
          refine tab_skip (fun r w1 hr hg hA => by obtain ⟨⟨_, q0⟩, ⟨_, q1⟩, -⟩ := hA; have q0e : r (.tmp 43) = undef := q0; have q1e : r (.tmp 41) = .bool false := q1; exact ⟨_, q1e, rfl⟩) ?_
          refine tab_skip (fun r w1 hr hg hA => by obtain ⟨⟨_, q0⟩, ⟨_, q1⟩, ⟨_, q2⟩, -⟩ := hA; have q0e : r (.tmp 42) = undef := q0; have q1e : r (.tmp 44) = undef := q1; have q2e : r (.tmp 41) = .bool false := q2; exact ⟨_, q2e, rfl⟩) ?_
          refine tab_skip (fun r w1 hr hg hA => by obtain ⟨⟨_, q0⟩, ⟨_, q1⟩, -⟩ := hA; have q0e : r (.tmp 45) = undef := q0; have q1e : r (.tmp 41) = .bool false := q1; exact ⟨_, q1e, rfl⟩) ?_
          refine tab_skip (fun r w1 hr hg hA => by obtain ⟨q0, ⟨_, q1⟩, -⟩ := hA; have q0e : r (.tmp 0) = .slice (some ⟨ba, oa, none⟩) n c := q0; have q1e : r (.tmp 41) = .bool false := q1; exact ⟨_, q1e, rfl⟩) ?_
          refine tab_skip (fun r w1 hr hg hA => by obtain ⟨q0, ⟨_, q1⟩, -⟩ := hA; have q0e : r (.tmp 5) = .int .i64 ((j : Int) + 1) := q0; have q1e : r (.tmp 41) = .bool false := q1; exact ⟨_, q1e, rfl⟩) ?_
          refine tab_skip (fun r w1 hr hg hA => by obtain ⟨⟨_, q0⟩, ⟨_, q1⟩, ⟨_, q2⟩, -⟩ := hA; have q0e : r (.tmp 47) = undef := q0; have q1e : r (.tmp 48) = undef := q1; have q2e : r (.tmp 41) = .bool false := q2; exact ⟨_, q2e, rfl⟩) ?_
          refine tab_skip (fun r w1 hr hg hA => by obtain ⟨⟨_, q0⟩, ⟨_, q1⟩, -⟩ := hA; have q0e : r (.tmp 49) = undef := q0; have q1e : r (.tmp 41) = .bool false := q1; exact ⟨_, q1e, rfl⟩) ?_
          refine tab_skip (fun r w1 hr hg hA => by obtain ⟨q0, ⟨_, q1⟩, -⟩ := hA; have q0e : r (.tmp 3) = .pointer (some ⟨w.heap.size, 0, none⟩) := q0; have q1e : r (.tmp 41) = .bool false := q1; exact ⟨_, q1e, rfl⟩) ?_
          refine tab_skip (fun r w1 hr hg hA => by obtain ⟨⟨_, q0⟩, ⟨_, q1⟩, ⟨_, q2⟩, ⟨_, q3⟩, -⟩ := hA; have q0e : r (.tmp 46) = undef := q0; have q1e : r (.tmp 50) = undef := q1; have q2e : r (.tmp 51) = undef := q2; have q3e : r (.tmp 41) = .bool false := q3; exact ⟨_, q3e, rfl⟩) ?_
          refine tab_end ?_
          simp only [List.reverse_cons, List.reverse_nil, List.nil_append, List.cons_append, Out, BlockP, forall_eq, forall_const, Act.put, List.setIfInBounds_toArray, List.set_cons_succ, List.set_cons_zero]
          intro wA hgA
          have GA := Lib.hid (hg1.trans hgA)
          clear hg1 hgA hg1' hw0 hwr hs1 hs2
          go_wp2
          exact ⟨⟨j + 1, by simp, Lib.hid (fun i hi => (Nat.lt_succ_iff_lt_or_eq.1 hi).elim (fun h => HB.out i h) (fun h => by rw [h]; exact HE.out)), Lib.hid (G.out.trans GA.out)⟩, by simp only [intOf]; omega⟩
        | true =>
          cases m2 with
          | false =>
            have HE := Lib.hid (HED.out.trans (by simp) : redge ⟨lx, ly, hx, hy⟩ (gp l j) (gp l (j + 1)) = false)
            go_wp2_with fail
            refine wp_region_tab 41 (by kernel_rfl) (by kernel_rfl) ?_
            intro w0 hw0 hg1 hg1'
            simp only [List.take_succ_cons, List.take_zero, List.drop_succ_cons, List.drop_zero]
            refine tab_val (.slice (some ⟨ba, oa, none⟩) n c) (fun r w1 hr hg hA => by obtain ⟨q0, -⟩ := hA; have q0e : r (.tmp 0) = .slice (some ⟨ba, oa, none⟩) n c := q0; exact ⟨rfl, by simp [go_sem, q0e]⟩) ?_
            refine tab_val (.int .i64 ((j : Int) + 1)) (fun r w1 hr hg hA => by obtain ⟨q0, -⟩ := hA; have q0e : r (.tmp 5) = .int .i64 ((j : Int) + 1) := q0; exact ⟨rfl, by simp [go_sem, q0e]⟩) ?_
            refine tab_val (.int .i64 (j : Int)) (fun r w1 hr hg hA => by obtain ⟨⟨_, q0⟩, -⟩ := hA; have q0e : r (.tmp 13) = .int .i64 ((j : Int) + 1) := q0; exact ⟨rfl, by simp [go_sem, hr.const, q0e, i64w, hwr]⟩) ?_
            refine tab_val (.pointer (some ⟨ba, oa + j * 2, none⟩)) (fun r w1 hr hg hA => by obtain ⟨⟨_, q0⟩, ⟨_, q1⟩, -⟩ := hA; have q0e : r (.tmp 12) = .slice (some ⟨ba, oa, none⟩) n c := q0; have q1e : r (.tmp 14) = .int .i64 (j : Int) := q1; exact ⟨rfl, by simp [go_sem, q0e, q1e, hjn]⟩) ?_
            refine tab_val (.agg #[.int .i64 px, .int .i64 py]) (fun r w1 hr hg hA => by obtain ⟨⟨_, q0⟩, -⟩ := hA; have q0e : r (.tmp 15) = .pointer (some ⟨ba, oa + j * 2, none⟩) := q0; have hc := CF.out w1 (hg1.trans hg); exact ⟨rfl, by simp [go_sem, q0e, hc]⟩) ?_
            refine tab_val (.slice (some ⟨ba, oa, none⟩) n c) (fun r w1 hr hg hA => by obtain ⟨q0, -⟩ := hA; have q0e : r (.tmp 0) = .slice (some ⟨ba, oa, none⟩) n c := q0; exact ⟨rfl, by simp [go_sem, q0e]⟩) ?_
            refine tab_val (.int .i64 ((j : Int) + 1)) (fun r w1 hr hg hA => by obtain ⟨q0, -⟩ := hA; have q0e : r (.tmp 5) = .int .i64 ((j : Int) + 1) := q0; exact ⟨rfl, by simp [go_sem, q0e]⟩) ?_
            refine tab_val (.pointer (some ⟨ba, oa + (j + 1) * 2, none⟩)) (fun r w1 hr hg hA => by obtain ⟨⟨_, q0⟩, ⟨_, q1⟩, -⟩ := hA; have q0e : r (.tmp 17) = .slice (some ⟨ba, oa, none⟩) n c := q0; have q1e : r (.tmp 18) = .int .i64 ((j : Int) + 1) := q1; exact ⟨rfl, by simp [go_sem, q0e, q1e, hs1, hs2]⟩) ?_
            refine tab_val (.agg #[.int .i64 qx, .int .i64 qy]) (fun r w1 hr hg hA => by obtain ⟨⟨_, q0⟩, -⟩ := hA; have q0e : r (.tmp 19) = .pointer (some ⟨ba, oa + (j + 1) * 2, none⟩) := q0; have hc := CF.out w1 (hg1.trans hg); exact ⟨rfl, by simp [go_sem, q0e, hc]⟩) ?_
            refine tab_val (.bool true) (fun r w1 hr hg hA => by obtain ⟨⟨_, q0⟩, ⟨_, q1⟩, -⟩ := hA; have q0e : r (.tmp 16) = .agg #[.int .i64 px, .int .i64 py] := q0; have q1e : r (.tmp 20) = .agg #[.int .i64 qx, .int .i64 qy] := q1; exact ⟨rfl, by simp [go_sem, q0e, q1e, e]⟩) ?_
            refine tab_val (.bool true) (fun r w1 hr hg hA => by obtain ⟨⟨_, q0⟩, -⟩ := hA; have q0e : r (.tmp 21) = .bool true := q0; exact ⟨rfl, by simp [go_sem, q0e]⟩) ?_
            refine tab_val (.slice (some ⟨ba, oa, none⟩) n c) (fun r w1 hr hg hA => by obtain ⟨q0, ⟨_, q1⟩, -⟩ := hA; have q0e : r (.tmp 0) = .slice (some ⟨ba, oa, none⟩) n c := q0; have q1e : r (.tmp 22) = .bool true := q1; exact ⟨⟨_, q1e, rfl⟩, by simp [go_sem, q0e]⟩) ?_
            refine tab_val (.int .i64 ((j : Int) + 1)) (fun r w1 hr hg hA => by obtain ⟨q0, ⟨_, q1⟩, -⟩ := hA; have q0e : r (.tmp 5) = .int .i64 ((j : Int) + 1) := q0; have q1e : r (.tmp 22) = .bool true := q1; exact ⟨⟨_, q1e, rfl⟩, by simp [go_sem, q0e]⟩) ?_
            refine tab_val (.int .i64 (j : Int)) (fun r w1 hr hg hA => by obtain ⟨⟨_, q0⟩, ⟨_, q1⟩, -⟩ := hA; have q0e : r (.tmp 24) = .int .i64 ((j : Int) + 1) := q0; have q1e : r (.tmp 22) = .bool true := q1; exact ⟨⟨_, q1e, rfl⟩, by simp [go_sem, hr.const, q0e, i64w, hwr]⟩) ?_
            refine tab_val (.pointer (some ⟨ba, oa + j * 2, none⟩)) (fun r w1 hr hg hA => by obtain ⟨⟨_, q0⟩, ⟨_, q1⟩, ⟨_, q2⟩, -⟩ := hA; have q0e : r (.tmp 23) = .slice (some ⟨ba, oa, none⟩) n c := q0; have q1e : r (.tmp 25) = .int .i64 (j : Int) := q1; have q2e : r (.tmp 22) = .bool true := q2; exact ⟨⟨_, q2e, rfl⟩, by simp [go_sem, q0e, q1e, hjn]⟩) ?_
            refine tab_val (.agg #[.int .i64 px, .int .i64 py]) (fun r w1 hr hg hA => by obtain ⟨⟨_, q0⟩, ⟨_, q1⟩, -⟩ := hA; have q0e : r (.tmp 26) = .pointer (some ⟨ba, oa + j * 2, none⟩) := q0; have q1e : r (.tmp 22) = .bool true := q1; have hc := CF.out w1 (hg1.trans hg); exact ⟨⟨_, q1e, rfl⟩, by simp [go_sem, q0e, hc]⟩) ?_
            refine tab_call (v := .bool true) (fun w1 hg => H1.out w1) (fun r w1 hr hg hA => by obtain ⟨⟨_, q0⟩, ⟨_, q1⟩, -⟩ := hA; have q0e : r (.tmp 27) = .agg #[.int .i64 px, .int .i64 py] := q0; have q1e : r (.tmp 22) = .bool true := q1; exact ⟨⟨_, q1e, rfl⟩, by simp [go_sem, hr.func, q0e]⟩) ?_
            refine tab_val (.bool true) (fun r w1 hr hg hA => by obtain ⟨⟨_, q0⟩, ⟨_, q1⟩, -⟩ := hA; have q0e : r (.tmp 22) = .bool true := q0; have q1e : r (.tmp 28) = .bool true := q1; exact ⟨rfl, by simp [go_sem, q0e, q1e]⟩) ?_
            refine tab_val (.bool true) (fun r w1 hr hg hA => by obtain ⟨⟨_, q0⟩, -⟩ := hA; have q0e : r (.tmp 29) = .bool true := q0; exact ⟨rfl, by simp [go_sem, q0e]⟩) ?_
            refine tab_val (.slice (some ⟨ba, oa, none⟩) n c) (fun r w1 hr hg hA => by obtain ⟨q0, ⟨_, q1⟩, -⟩ := hA; have q0e : r (.tmp 0) = .slice (some ⟨ba, oa, none⟩) n c := q0; have q1e : r (.tmp 30) = .bool true := q1; exact ⟨⟨_, q1e, rfl⟩, by simp [go_sem, q0e]⟩) ?_
            refine tab_val (.int .i64 ((j : Int) + 1)) (fun r w1 hr hg hA => by obtain ⟨q0, ⟨_, q1⟩, -⟩ := hA; have q0e : r (.tmp 5) = .int .i64 ((j : Int) + 1) := q0; have q1e : r (.tmp 30) = .bool true := q1; exact ⟨⟨_, q1e, rfl⟩, by simp [go_sem, q0e]⟩) ?_
            refine tab_val (.pointer (some ⟨ba, oa + (j + 1) * 2, none⟩)) (fun r w1 hr hg hA => by obtain ⟨⟨_, q0⟩, ⟨_, q1⟩, ⟨_, q2⟩, -⟩ := hA; have q0e : r (.tmp 31) = .slice (some ⟨ba, oa, none⟩) n c := q0; have q1e : r (.tmp 32) = .int .i64 ((j : Int) + 1) := q1; have q2e : r (.tmp 30) = .bool true := q2; exact ⟨⟨_, q2e, rfl⟩, by simp [go_sem, q0e, q1e, hs1, hs2]⟩) ?_
            refine tab_val (.agg #[.int .i64 qx, .int .i64 qy]) (fun r w1 hr hg hA => by obtain ⟨⟨_, q0⟩, ⟨_, q1⟩, -⟩ := hA; have q0e : r (.tmp 33) = .pointer (some ⟨ba, oa + (j + 1) * 2, none⟩) := q0; have q1e : r (.tmp 30) = .bool true := q1; have hc := CF.out w1 (hg1.trans hg); exact ⟨⟨_, q1e, rfl⟩, by simp [go_sem, q0e, hc]⟩) ?_
            refine tab_call (v := .bool false) (fun w1 hg => H2.out w1) (fun r w1 hr hg hA => by obtain ⟨⟨_, q0⟩, ⟨_, q1⟩, -⟩ := hA; have q0e : r (.tmp 34) = .agg #[.int .i64 qx, .int .i64 qy] := q0; have q1e : r (.tmp 30) = .bool true := q1; exact ⟨⟨_, q1e, rfl⟩, by simp [go_sem, hr.func, q0e]⟩) ?_
            refine tab_val (.bool false) (fun r w1 hr hg hA => by obtain ⟨⟨_, q0⟩, ⟨_, q1⟩, -⟩ := hA; have q0e : r (.tmp 30) = .bool true := q0; have q1e : r (.tmp 35) = .bool false := q1; exact ⟨rfl, by simp [go_sem, q0e, q1e]⟩) ?_
            refine tab_val (.bool false) (fun r w1 hr hg hA => by obtain ⟨⟨_, q0⟩, -⟩ := hA; have q0e : r (.tmp 36) = .bool false := q0; exact ⟨rfl, by simp [go_sem, q0e]⟩) ?_
            refine tab_skip (fun r w1 hr hg hA => by obtain ⟨q0, ⟨_, q1⟩, -⟩ := hA; have q0e : r (.tmp 3) = .pointer (some ⟨w.heap.size, 0, none⟩) := q0; have q1e : r (.tmp 37) = .bool false := q1; exact ⟨_, q1e, rfl⟩) ?_
            refine tab_skip (fun r w1 hr hg hA => by obtain ⟨⟨_, q0⟩, ⟨_, q1⟩, -⟩ := hA; have q0e : r (.tmp 38) = undef := q0; have q1e : r (.tmp 37) = .bool false := q1; exact ⟨_, q1e, rfl⟩) ?_
            refine tab_val (.bool false) (fun r w1 hr hg hA => by obtain ⟨⟨_, q0⟩, ⟨_, q1⟩, -⟩ := hA; have q0e : r (.tmp 37) = .bool false := q0; have q1e : r (.tmp 39) = undef := q1; exact ⟨rfl, by simp [go_sem, hr.const, q0e]⟩) ?_
            refine tab_val (.bool false) (fun r w1 hr hg hA => by obtain ⟨⟨_, q0⟩, -⟩ := hA; have q0e : r (.tmp 40) = .bool false := q0; exact ⟨rfl, by simp [go_sem, q0e]⟩) ?_
            refine tab_skip (fun r w1 hr hg hA => by obtain ⟨q0, ⟨_, q1⟩, -⟩ := hA; have q0e : r (.tmp 0) = .slice (some ⟨ba, oa, none⟩) n c := q0; have q1e : r (.tmp 41) = .bool false := q1; exact ⟨_, q1e, rfl⟩) ?_
            refine tab_skip (fun r w1 hr hg hA => by obtain ⟨q0, ⟨_, q1⟩, -⟩ := hA; have q0e : r (.tmp 5) = .int .i64 ((j : Int) + 1) := q0; have q1e : r (.tmp 41) = .bool false := q1; exact ⟨_, q1e, rfl⟩) ?_
            refine tab_skip (fun r w1 hr hg hA => by obtain ⟨⟨_, q0⟩, ⟨_, q1⟩, -⟩ := hA; have q0e : r (.tmp 43) = undef := q0; have q1e : r (.tmp 41) = .bool false := q1; exact ⟨_, q1e, rfl⟩) ?_
            refine tab_skip (fun r w1 hr hg hA => by obtain ⟨⟨_, q0⟩, ⟨_, q1⟩, ⟨_, q2⟩, -⟩ := hA; have q0e : r (.tmp 42) = undef := q0; have q1e : r (.tmp 44) = undef := q1; have q2e : r (.tmp 41) = .bool false := q2; exact ⟨_, q2e, rfl⟩) ?_
            refine tab_skip (fun r w1 hr hg hA => by obtain ⟨⟨_, q0⟩, ⟨_, q1⟩, -⟩ := hA; have q0e : r (.tmp 45) = undef := q0; have q1e : r (.tmp 41) = .bool false := q1; exact ⟨_, q1e, rfl⟩) ?_
            refine tab_skip (fun r w1 hr hg hA => by obtain ⟨q0, ⟨_, q1⟩, -⟩ := hA; have q0e : r (.tmp 0) = .slice (some ⟨ba, oa, none⟩) n c := q0; have q1e : r (.tmp 41) = .bool false := q1; exact ⟨_, q1e, rfl⟩) ?_
            refine tab_skip (fun r w1 hr hg hA => by obtain ⟨q0, ⟨_, q1⟩, -⟩ := hA; have q0e : r (.tmp 5) = .int .i64 ((j : Int) + 1) := q0; have q1e : r (.tmp 41) = .bool false := q1; exact ⟨_, q1e, rfl⟩) ?_
            refine tab_skip (fun r w1 hr hg hA => by obtain ⟨⟨_, q0⟩, ⟨_, q1⟩, ⟨_, q2⟩, -⟩ := hA; have q0e : r (.tmp 47) = undef := q0; have q1e : r (.tmp 48) = undef := q1; have q2e : r (.tmp 41) = .bool false := q2; exact ⟨_, q2e, rfl⟩) ?_
            refine tab_skip (fun r w1 hr hg hA => by obtain ⟨⟨_, q0⟩, ⟨_, q1⟩, -⟩ := hA; have q0e : r (.tmp 49) = undef := q0; have q1e : r (.tmp 41) = .bool false := q1; exact ⟨_, q1e, rfl⟩) ?_
            refine tab_skip (fun r w1 hr hg hA => by obtain ⟨q0, ⟨_, q1⟩, -⟩ := hA; have q0e : r (.tmp 3) = .pointer (some ⟨w.heap.size, 0, none⟩) := q0; have q1e : r (.tmp 41) = .bool false := q1; exact ⟨_, q1e, rfl⟩) ?_
            refine tab_skip (fun r w1 hr hg hA => by obtain ⟨⟨_, q0⟩, ⟨_, q1⟩, ⟨_, q2⟩, ⟨_, q3⟩, -⟩ := hA; have q0e : r (.tmp 46) = undef := q0; have q1e : r (.tmp 50) = undef := q1; have q2e : r (.tmp 51) = undef := q2; have q3e : r (.tmp 41) = .bool false := q3; exact ⟨_, q3e, rfl⟩) ?_
            refine tab_end ?_
            simp only [List.reverse_cons, List.reverse_nil, List.nil_append, List.cons_append, Out, BlockP, forall_eq, forall_const, Act.put, List.setIfInBounds_toArray, List.set_cons_succ, List.set_cons_zero]
            intro wA hgA
            have GA := Lib.hid (hg1.trans hgA)
            clear hg1 hgA hg1' hw0 hwr hs1 hs2
            go_wp2
            exact ⟨⟨j + 1, by simp, Lib.hid (fun i hi => (Nat.lt_succ_iff_lt_or_eq.1 hi).elim (fun h => HB.out i h) (fun h => by rw [h]; exact HE.out)), Lib.hid (G.out.trans GA.out)⟩, by simp only [intOf]; omega⟩
          | true =>
            cases m3 with
            | false =>
              have HE := Lib.hid (HED.out.trans (by simp) : redge ⟨lx, ly, hx, hy⟩ (gp l j) (gp l (j + 1)) = false)
              go_wp2_with fail
              refine wp_region_tab 41 (by kernel_rfl) (by kernel_rfl) ?_
              intro w0 hw0 hg1 hg1'
              simp only [List.take_succ_cons, List.take_zero, List.drop_succ_cons, List.drop_zero]
              refine tab_val (.slice (some ⟨ba, oa, none⟩) n c) (fun r w1 hr hg hA => by obtain ⟨q0, -⟩ := hA; have q0e : r (.tmp 0) = .slice (some ⟨ba, oa, none⟩) n c := q0; exact ⟨rfl, by simp [go_sem, q0e]⟩) ?_
              refine tab_val (.int .i64 ((j : Int) + 1)) (fun r w1 hr hg hA => by obtain ⟨q0, -⟩ := hA; have q0e : r (.tmp 5) = .int .i64 ((j : Int) + 1) := q0; exact ⟨rfl, by simp [go_sem, q0e]⟩) ?_
              refine tab_val (.int .i64 (j : Int)) (fun r w1 hr hg hA => by obtain ⟨⟨_, q0⟩, -⟩ := hA; have q0e : r (.tmp 13) = .int .i64 ((j : Int) + 1) := q0; exact ⟨rfl, by simp [go_sem, hr.const, q0e, i64w, hwr]⟩) ?_
              refine tab_val (.pointer (some ⟨ba, oa + j * 2, none⟩)) (fun r w1 hr hg hA => by obtain ⟨⟨_, q0⟩, ⟨_, q1⟩, -⟩ := hA; have q0e : r (.tmp 12) = .slice (some ⟨ba, oa, none⟩) n c := q0; have q1e : r (.tmp 14) = .int .i64 (j : Int) := q1; exact ⟨rfl, by simp [go_sem, q0e, q1e, hjn]⟩) ?_
              refine tab_val (.agg #[.int .i64 px, .int .i64 py]) (fun r w1 hr hg hA => by obtain ⟨⟨_, q0⟩, -⟩ := hA; have q0e : r (.tmp 15) = .pointer (some ⟨ba, oa + j * 2, none⟩) := q0; have hc := CF.out w1 (hg1.trans hg); exact ⟨rfl, by simp [go_sem, q0e, hc]⟩) ?_
              refine tab_val (.slice (some ⟨ba, oa, none⟩) n c) (fun r w1 hr hg hA => by obtain ⟨q0, -⟩ := hA; have q0e : r (.tmp 0) = .slice (some ⟨ba, oa, none⟩) n c := q0; exact ⟨rfl, by simp [go_sem, q0e]⟩) ?_
              refine tab_val (.int .i64 ((j : Int) + 1)) (fun r w1 hr hg hA => by obtain ⟨q0, -⟩ := hA; have q0e : r (.tmp 5) = .int .i64 ((j : Int) + 1) := q0; exact ⟨rfl, by simp [go_sem, q0e]⟩) ?_
              refine tab_val (.pointer (some ⟨ba, oa + (j + 1) * 2, none⟩)) (fun r w1 hr hg hA => by obtain ⟨⟨_, q0⟩, ⟨_, q1⟩, -⟩ := hA; have q0e : r (.tmp 17) = .slice (some ⟨ba, oa, none⟩) n c := q0; have q1e : r (.tmp 18) = .int .i64 ((j : Int) + 1) := q1; exact ⟨rfl, by simp [go_sem, q0e, q1e, hs1, hs2]⟩) ?_
              refine tab_val (.agg #[.int .i64 qx, .int .i64 qy]) (fun r w1 hr hg hA => by obtain ⟨⟨_, q0⟩, -⟩ := hA; have q0e : r (.tmp 19) = .pointer (some ⟨ba, oa + (j + 1) * 2, none⟩) := q0; have hc := CF.out w1 (hg1.trans hg); exact ⟨rfl, by simp [go_sem, q0e, hc]⟩) ?_
              refine tab_val (.bool true) (fun r w1 hr hg hA => by obtain ⟨⟨_, q0⟩, ⟨_, q1⟩, -⟩ := hA; have q0e : r (.tmp 16) = .agg #[.int .i64 px, .int .i64 py] := q0; have q1e : r (.tmp 20) = .agg #[.int .i64 qx, .int .i64 qy] := q1; exact ⟨rfl, by simp [go_sem, q0e, q1e, e]⟩) ?_
              refine tab_val (.bool true) (fun r w1 hr hg hA => by obtain ⟨⟨_, q0⟩, -⟩ := hA; have q0e : r (.tmp 21) = .bool true := q0; exact ⟨rfl, by simp [go_sem, q0e]⟩) ?_
              refine tab_val (.slice (some ⟨ba, oa, none⟩) n c) (fun r w1 hr hg hA => by obtain ⟨q0, ⟨_, q1⟩, -⟩ := hA; have q0e : r (.tmp 0) = .slice (some ⟨ba, oa, none⟩) n c := q0; have q1e : r (.tmp 22) = .bool true := q1; exact ⟨⟨_, q1e, rfl⟩, by simp [go_sem, q0e]⟩) ?_
              refine tab_val (.int .i64 ((j : Int) + 1)) (fun r w1 hr hg hA => by obtain ⟨q0, ⟨_, q1⟩, -⟩ := hA; have q0e : r (.tmp 5) = .int .i64 ((j : Int) + 1) := q0; have q1e : r (.tmp 22) = .bool true := q1; exact ⟨⟨_, q1e, rfl⟩, by simp [go_sem, q0e]⟩) ?_
              refine tab_val (.int .i64 (j : Int)) (fun r w1 hr hg hA => by obtain ⟨⟨_, q0⟩, ⟨_, q1⟩, -⟩ := hA; have q0e : r (.tmp 24) = .int .i64 ((j : Int) + 1) := q0; have q1e : r (.tmp 22) = .bool true := q1; exact ⟨⟨_, q1e, rfl⟩, by simp [go_sem, hr.const, q0e, i64w, hwr]⟩) ?_
              refine tab_val (.pointer (some ⟨ba, oa + j * 2, none⟩)) (fun r w1 hr hg hA => by obtain ⟨⟨_, q0⟩, ⟨_, q1⟩, ⟨_, q2⟩, -⟩ := hA; have q0e : r (.tmp 23) = .slice (some ⟨ba, oa, none⟩) n c := q0; have q1e : r (.tmp 25) = .int .i64 (j : Int) := q1; have q2e : r (.tmp 22) = .bool true := q2; exact ⟨⟨_, q2e, rfl⟩, by simp [go_sem, q0e, q1e, hjn]⟩) ?_
              refine tab_val (.agg #[.int .i64 px, .int .i64 py]) (fun r w1 hr hg hA => by obtain ⟨⟨_, q0⟩, ⟨_, q1⟩, -⟩ := hA; have q0e : r (.tmp 26) = .pointer (some ⟨ba, oa + j * 2, none⟩) := q0; have q1e : r (.tmp 22) = .bool true := q1; have hc := CF.out w1 (hg1.trans hg); exact ⟨⟨_, q1e, rfl⟩, by simp [go_sem, q0e, hc]⟩) ?_
              refine tab_call (v := .bool true) (fun w1 hg => H1.out w1) (fun r w1 hr hg hA => by obtain ⟨⟨_, q0⟩, ⟨_, q1⟩, -⟩ := hA; have q0e : r (.tmp 27) = .agg #[.int .i64 px, .int .i64 py] := q0; have q1e : r (.tmp 22) = .bool true := q1; exact ⟨⟨_, q1e, rfl⟩, by simp [go_sem, hr.func, q0e]⟩) ?_
              refine tab_val (.bool true) (fun r w1 hr hg hA => by obtain ⟨⟨_, q0⟩, ⟨_, q1⟩, -⟩ := hA; have q0e : r (.tmp 22) = .bool true := q0; have q1e : r (.tmp 28) = .bool true := q1; exact ⟨rfl, by simp [go_sem, q0e, q1e]⟩) ?_
              refine tab_val (.bool true) (fun r w1 hr hg hA => by obtain ⟨⟨_, q0⟩, -⟩ := hA; have q0e : r (.tmp 29) = .bool true := q0; exact ⟨rfl, by simp [go_sem, q0e]⟩) ?_
              refine tab_val (.slice (some ⟨ba, oa, none⟩) n c) (fun r w1 hr hg hA => by obtain ⟨q0, ⟨_, q1⟩, -⟩ := hA; have q0e : r (.tmp 0) = .slice (some ⟨ba, oa, none⟩) n c := q0; have q1e : r (.tmp 30) = .bool true := q1; exact ⟨⟨_, q1e, rfl⟩, by simp [go_sem, q0e]⟩) ?_
              refine tab_val (.int .i64 ((j : Int) + 1)) (fun r w1 hr hg hA => by obtain ⟨q0, ⟨_, q1⟩, -⟩ := hA; have q0e : r (.tmp 5) = .int .i64 ((j : Int) + 1) := q0; have q1e : r (.tmp 30) = .bool true := q1; exact ⟨⟨_, q1e, rfl⟩, by simp [go_sem, q0e]⟩) ?_
              refine tab_val (.pointer (some ⟨ba, oa + (j + 1) * 2, none⟩)) (fun r w1 hr hg hA => by obtain ⟨⟨_, q0⟩, ⟨_, q1⟩, ⟨_, q2⟩, -⟩ := hA; have q0e : r (.tmp 31) = .slice (some ⟨ba, oa, none⟩) n c := q0; have q1e : r (.tmp 32) = .int .i64 ((j : Int) + 1) := q1; have q2e : r (.tmp 30) = .bool true := q2; exact ⟨⟨_, q2e, rfl⟩, by simp [go_sem, q0e, q1e, hs1, hs2]⟩) ?_
              refine tab_val (.agg #[.int .i64 qx, .int .i64 qy]) (fun r w1 hr hg hA => by obtain ⟨⟨_, q0⟩, ⟨_, q1⟩, -⟩ := hA; have q0e : r (.tmp 33) = .pointer (some ⟨ba, oa + (j + 1) * 2, none⟩) := q0; have q1e : r (.tmp 30) = .bool true := q1; have hc := CF.out w1 (hg1.trans hg); exact ⟨⟨_, q1e, rfl⟩, by simp [go_sem, q0e, hc]⟩) ?_
              refine tab_call (v := .bool true) (fun w1 hg => H2.out w1) (fun r w1 hr hg hA => by obtain ⟨⟨_, q0⟩, ⟨_, q1⟩, -⟩ := hA; have q0e : r (.tmp 34) = .agg #[.int .i64 qx, .int .i64 qy] := q0; have q1e : r (.tmp 30) = .bool true := q1; exact ⟨⟨_, q1e, rfl⟩, by simp [go_sem, hr.func, q0e]⟩) ?_
              refine tab_val (.bool true) (fun r w1 hr hg hA => by obtain ⟨⟨_, q0⟩, ⟨_, q1⟩, -⟩ := hA; have q0e : r (.tmp 30) = .bool true := q0; have q1e : r (.tmp 35) = .bool true := q1; exact ⟨rfl, by simp [go_sem, q0e, q1e]⟩) ?_
              refine tab_val (.bool true) (fun r w1 hr hg hA => by obtain ⟨⟨_, q0⟩, -⟩ := hA; have q0e : r (.tmp 36) = .bool true := q0; exact ⟨rfl, by simp [go_sem, q0e]⟩) ?_
              refine tab_val (.agg #[.int .i64 lx, .int .i64 ly, .int .i64 hx, .int .i64 hy]) (fun r w1 hr hg hA => by obtain ⟨q0, ⟨_, q1⟩, -⟩ := hA; have q0e : r (.tmp 3) = .pointer (some ⟨w.heap.size, 0, none⟩) := q0; have q1e : r (.tmp 37) = .bool true := q1; have hc := CF.out w1 (hg1.trans hg); exact ⟨⟨_, q1e, rfl⟩, by simp [go_sem, q0e, hc]⟩) ?_
              refine tab_call (v := .bool false) (fun w1 hg => H3.out w1) (fun r w1 hr hg hA => by obtain ⟨⟨_, q0⟩, ⟨_, q1⟩, -⟩ := hA; have q0e : r (.tmp 38) = .agg #[.int .i64 lx, .int .i64 ly, .int .i64 hx, .int .i64 hy] := q0; have q1e : r (.tmp 37) = .bool true := q1; exact ⟨⟨_, q1e, rfl⟩, by simp [go_sem, hr.func, q0e]⟩) ?_
              refine tab_val (.bool false) (fun r w1 hr hg hA => by obtain ⟨⟨_, q0⟩, ⟨_, q1⟩, -⟩ := hA; have q0e : r (.tmp 37) = .bool true := q0; have q1e : r (.tmp 39) = .bool false := q1; exact ⟨rfl, by simp [go_sem, q0e, q1e]⟩) ?_
              refine tab_val (.bool false) (fun r w1 hr hg hA => by obtain ⟨⟨_, q0⟩, -⟩ := hA; have q0e : r (.tmp 40) = .bool false := q0; exact ⟨rfl, by simp [go_sem, q0e]⟩) ?_
              refine tab_skip (fun r w1 hr hg hA => by obtain ⟨q0, ⟨_, q1⟩, -⟩ := hA; have q0e : r (.tmp 0) = .slice (some ⟨ba, oa, none⟩) n c := q0; have q1e : r (.tmp 41) = .bool false := q1; exact ⟨_, q1e, rfl⟩) ?_
              refine tab_skip (fun r w1 hr hg hA => by obtain ⟨q0, ⟨_, q1⟩, -⟩ := hA; have q0e : r (.tmp 5) = .int .i64 ((j : Int) + 1) := q0; have q1e : r (.tmp 41) = .bool false := q1; exact ⟨_, q1e, rfl⟩) ?_
              refine tab_skip (fun r w1 hr hg hA => by obtain ⟨⟨_, q0⟩, ⟨_, q1⟩, -⟩ := hA; have q0e : r (.tmp 43) = undef := q0; have q1e : r (.tmp 41) = .bool false := q1; exact ⟨_, q1e, rfl⟩) ?_
              refine tab_skip (fun r w1 hr hg hA => by obtain ⟨⟨_, q0⟩, ⟨_, q1⟩, ⟨_, q2⟩, -⟩ := hA; have q0e : r (.tmp 42) = undef := q0; have q1e : r (.tmp 44) = undef := q1; have q2e : r (.tmp 41) = .bool false := q2; exact ⟨_, q2e, rfl⟩) ?_
              refine tab_skip (fun r w1 hr hg hA => by obtain ⟨⟨_, q0⟩, ⟨_, q1⟩, -⟩ := hA; have q0e : r (.tmp 45) = undef := q0; have q1e : r (.tmp 41) = .bool false := q1; exact ⟨_, q1e, rfl⟩) ?_
              refine tab_skip (fun r w1 hr hg hA => by obtain ⟨q0, ⟨_, q1⟩, -⟩ := hA; have q0e : r (.tmp 0) = .slice (some ⟨ba, oa, none⟩) n c := q0; have q1e : r (.tmp 41) = .bool false := q1; exact ⟨_, q1e, rfl⟩) ?_
              refine tab_skip (fun r w1 hr hg hA => by obtain ⟨q0, ⟨_, q1⟩, -⟩ := hA; have q0e : r (.tmp 5) = .int .i64 ((j : Int) + 1) := q0; have q1e : r (.tmp 41) = .bool false := q1; exact ⟨_, q1e, rfl⟩) ?_
              refine tab_skip (fun r w1 hr hg hA => by obtain ⟨⟨_, q0⟩, ⟨_, q1⟩, ⟨_, q2⟩, -⟩ := hA; have q0e : r (.tmp 47) = undef := q0; have q1e : r (.tmp 48) = undef := q1; have q2e : r (.tmp 41) = .bool false := q2; exact ⟨_, q2e, rfl⟩) ?_
              refine tab_skip (fun r w1 hr hg hA => by obtain ⟨⟨_, q0⟩, ⟨_, q1⟩, -⟩ := hA; have q0e : r (.tmp 49) = undef := q0; have q1e : r (.tmp 41) = .bool false := q1; exact ⟨_, q1e, rfl⟩) ?_
              refine tab_skip (fun r w1 hr hg hA => by obtain ⟨q0, ⟨_, q1⟩, -⟩ := hA; have q0e : r (.tmp 3) = .pointer (some ⟨w.heap.size, 0, none⟩) := q0; have q1e : r (.tmp 41) = .bool false := q1; exact ⟨_, q1e, rfl⟩) ?_
              refine tab_skip (fun r w1 hr hg hA => by obtain ⟨⟨_, q0⟩, ⟨_, q1⟩, ⟨_, q2⟩, ⟨_, q3⟩, -⟩ := hA; have q0e : r (.tmp 46) = undef := q0; have q1e : r (.tmp 50) = undef := q1; have q2e : r (.tmp 51) = undef := q2; have q3e : r (.tmp 41) = .bool false := q3; exact ⟨_, q3e, rfl⟩) ?_
              refine tab_end ?_
              simp only [List.reverse_cons, List.reverse_nil, List.nil_append, List.cons_append, Out, BlockP, forall_eq, forall_const, Act.put, List.setIfInBounds_toArray, List.set_cons_succ, List.set_cons_zero]
              intro wA hgA
              have GA := Lib.hid (hg1.trans hgA)
              clear hg1 hgA hg1' hw0 hwr hs1 hs2
              go_wp2
              exact ⟨⟨j + 1, by simp, Lib.hid (fun i hi => (Nat.lt_succ_iff_lt_or_eq.1 hi).elim (fun h => HB.out i h) (fun h => by rw [h]; exact HE.out)), Lib.hid (G.out.trans GA.out)⟩, by simp only [intOf]; omega⟩
            | true =>
              have H4 := Lib.hid (HIN4.out rfl rfl rfl)
              cases m4 with
              | false =>
                have HE := Lib.hid (HED.out.trans (by simp) : redge ⟨lx, ly, hx, hy⟩ (gp l j) (gp l (j + 1)) = false)
                go_wp2_with fail
                refine wp_region_tab 41 (by kernel_rfl) (by kernel_rfl) ?_
                intro w0 hw0 hg1 hg1'
                simp only [List.take_succ_cons, List.take_zero, List.drop_succ_cons, List.drop_zero]
                refine tab_val (.slice (some ⟨ba, oa, none⟩) n c) (fun r w1 hr hg hA => by obtain ⟨q0, -⟩ := hA; have q0e : r (.tmp 0) = .slice (some ⟨ba, oa, none⟩) n c := q0; exact ⟨rfl, by simp [go_sem, q0e]⟩) ?_
                refine tab_val (.int .i64 ((j : Int) + 1)) (fun r w1 hr hg hA => by obtain ⟨q0, -⟩ := hA; have q0e : r (.tmp 5) = .int .i64 ((j : Int) + 1) := q0; exact ⟨rfl, by simp [go_sem, q0e]⟩) ?_
                refine tab_val (.int .i64 (j : Int)) (fun r w1 hr hg hA => by obtain ⟨⟨_, q0⟩, -⟩ := hA; have q0e : r (.tmp 13) = .int .i64 ((j : Int) + 1) := q0; exact ⟨rfl, by simp [go_sem, hr.const, q0e, i64w, hwr]⟩) ?_
                refine tab_val (.pointer (some ⟨ba, oa + j * 2, none⟩)) (fun r w1 hr hg hA => by obtain ⟨⟨_, q0⟩, ⟨_, q1⟩, -⟩ := hA; have q0e : r (.tmp 12) = .slice (some ⟨ba, oa, none⟩) n c := q0; have q1e : r (.tmp 14) = .int .i64 (j : Int) := q1; exact ⟨rfl, by simp [go_sem, q0e, q1e, hjn]⟩) ?_
                refine tab_val (.agg #[.int .i64 px, .int .i64 py]) (fun r w1 hr hg hA => by obtain ⟨⟨_, q0⟩, -⟩ := hA; have q0e : r (.tmp 15) = .pointer (some ⟨ba, oa + j * 2, none⟩) := q0; have hc := CF.out w1 (hg1.trans hg); exact ⟨rfl, by simp [go_sem, q0e, hc]⟩) ?_
                refine tab_val (.slice (some ⟨ba, oa, none⟩) n c) (fun r w1 hr hg hA => by obtain ⟨q0, -⟩ := hA; have q0e : r (.tmp 0) = .slice (some ⟨ba, oa, none⟩) n c := q0; exact ⟨rfl, by simp [go_sem, q0e]⟩) ?_
                refine tab_val (.int .i64 ((j : Int) + 1)) (fun r w1 hr hg hA => by obtain ⟨q0, -⟩ := hA; have q0e : r (.tmp 5) = .int .i64 ((j : Int) + 1) := q0; exact ⟨rfl, by simp [go_sem, q0e]⟩) ?_
                refine tab_val (.pointer (some ⟨ba, oa + (j + 1) * 2, none⟩)) (fun r w1 hr hg hA => by obtain ⟨⟨_, q0⟩, ⟨_, q1⟩, -⟩ := hA; have q0e : r (.tmp 17) = .slice (some ⟨ba, oa, none⟩) n c := q0; have q1e : r (.tmp 18) = .int .i64 ((j : Int) + 1) := q1; exact ⟨rfl, by simp [go_sem, q0e, q1e, hs1, hs2]⟩) ?_
                refine tab_val (.agg #[.int .i64 qx, .int .i64 qy]) (fun r w1 hr hg hA => by obtain ⟨⟨_, q0⟩, -⟩ := hA; have q0e : r (.tmp 19) = .pointer (some ⟨ba, oa + (j + 1) * 2, none⟩) := q0; have hc := CF.out w1 (hg1.trans hg); exact ⟨rfl, by simp [go_sem, q0e, hc]⟩) ?_
                refine tab_val (.bool true) (fun r w1 hr hg hA => by obtain ⟨⟨_, q0⟩, ⟨_, q1⟩, -⟩ := hA; have q0e : r (.tmp 16) = .agg #[.int .i64 px, .int .i64 py] := q0; have q1e : r (.tmp 20) = .agg #[.int .i64 qx, .int .i64 qy] := q1; exact ⟨rfl, by simp [go_sem, q0e, q1e, e]⟩) ?_
                refine tab_val (.bool true) (fun r w1 hr hg hA => by obtain ⟨⟨_, q0⟩, -⟩ := hA; have q0e : r (.tmp 21) = .bool true := q0; exact ⟨rfl, by simp [go_sem, q0e]⟩) ?_
                refine tab_val (.slice (some ⟨ba, oa, none⟩) n c) (fun r w1 hr hg hA => by obtain ⟨q0, ⟨_, q1⟩, -⟩ := hA; have q0e : r (.tmp 0) = .slice (some ⟨ba, oa, none⟩) n c := q0; have q1e : r (.tmp 22) = .bool true := q1; exact ⟨⟨_, q1e, rfl⟩, by simp [go_sem, q0e]⟩) ?_
                refine tab_val (.int .i64 ((j : Int) + 1)) (fun r w1 hr hg hA => by obtain ⟨q0, ⟨_, q1⟩, -⟩ := hA; have q0e : r (.tmp 5) = .int .i64 ((j : Int) + 1) := q0; have q1e : r (.tmp 22) = .bool true := q1; exact ⟨⟨_, q1e, rfl⟩, by simp [go_sem, q0e]⟩) ?_
                refine tab_val (.int .i64 (j : Int)) (fun r w1 hr hg hA => by obtain ⟨⟨_, q0⟩, ⟨_, q1⟩, -⟩ := hA; have q0e : r (.tmp 24) = .int .i64 ((j : Int) + 1) := q0; have q1e : r (.tmp 22) = .bool true := q1; exact ⟨⟨_, q1e, rfl⟩, by simp [go_sem, hr.const, q0e, i64w, hwr]⟩) ?_
                refine tab_val (.pointer (some ⟨ba, oa + j * 2, none⟩)) (fun r w1 hr hg hA => by obtain ⟨⟨_, q0⟩, ⟨_, q1⟩, ⟨_, q2⟩, -⟩ := hA; have q0e : r (.tmp 23) = .slice (some ⟨ba, oa, none⟩) n c := q0; have q1e : r (.tmp 25) = .int .i64 (j : Int) := q1; have q2e : r (.tmp 22) = .bool true := q2; exact ⟨⟨_, q2e, rfl⟩, by simp [go_sem, q0e, q1e, hjn]⟩) ?_
                refine tab_val (.agg #[.int .i64 px, .int .i64 py]) (fun r w1 hr hg hA => by obtain ⟨⟨_, q0⟩, ⟨_, q1⟩, -⟩ := hA; have q0e : r (.tmp 26) = .pointer (some ⟨ba, oa + j * 2, none⟩) := q0; have q1e : r (.tmp 22) = .bool true := q1; have hc := CF.out w1 (hg1.trans hg); exact ⟨⟨_, q1e, rfl⟩, by simp [go_sem, q0e, hc]⟩) ?_
                refine tab_call (v := .bool true) (fun w1 hg => H1.out w1) (fun r w1 hr hg hA => by obtain ⟨⟨_, q0⟩, ⟨_, q1⟩, -⟩ := hA; have q0e : r (.tmp 27) = .agg #[.int .i64 px, .int .i64 py] := q0; have q1e : r (.tmp 22) = .bool true := q1; exact ⟨⟨_, q1e, rfl⟩, by simp [go_sem, hr.func, q0e]⟩) ?_
                refine tab_val (.bool true) (fun r w1 hr hg hA => by obtain ⟨⟨_, q0⟩, ⟨_, q1⟩, -⟩ := hA; have q0e : r (.tmp 22) = .bool true := q0; have q1e : r (.tmp 28) = .bool true := q1; exact ⟨rfl, by simp [go_sem, q0e, q1e]⟩) ?_
                refine tab_val (.bool true) (fun r w1 hr hg hA => by obtain ⟨⟨_, q0⟩, -⟩ := hA; have q0e : r (.tmp 29) = .bool true := q0; exact ⟨rfl, by simp [go_sem, q0e]⟩) ?_
                refine tab_val (.slice (some ⟨ba, oa, none⟩) n c) (fun r w1 hr hg hA => by obtain ⟨q0, ⟨_, q1⟩, -⟩ := hA; have q0e : r (.tmp 0) = .slice (some ⟨ba, oa, none⟩) n c := q0; have q1e : r (.tmp 30) = .bool true := q1; exact ⟨⟨_, q1e, rfl⟩, by simp [go_sem, q0e]⟩) ?_
                refine tab_val (.int .i64 ((j : Int) + 1)) (fun r w1 hr hg hA => by obtain ⟨q0, ⟨_, q1⟩, -⟩ := hA; have q0e : r (.tmp 5) = .int .i64 ((j : Int) + 1) := q0; have q1e : r (.tmp 30) = .bool true := q1; exact ⟨⟨_, q1e, rfl⟩, by simp [go_sem, q0e]⟩) ?_
                refine tab_val (.pointer (some ⟨ba, oa + (j + 1) * 2, none⟩)) (fun r w1 hr hg hA => by obtain ⟨⟨_, q0⟩, ⟨_, q1⟩, ⟨_, q2⟩, -⟩ := hA; have q0e : r (.tmp 31) = .slice (some ⟨ba, oa, none⟩) n c := q0; have q1e : r (.tmp 32) = .int .i64 ((j : Int) + 1) := q1; have q2e : r (.tmp 30) = .bool true := q2; exact ⟨⟨_, q2e, rfl⟩, by simp [go_sem, q0e, q1e, hs1, hs2]⟩) ?_
                refine tab_val (.agg #[.int .i64 qx, .int .i64 qy]) (fun r w1 hr hg hA => by obtain ⟨⟨_, q0⟩, ⟨_, q1⟩, -⟩ := hA; have q0e : r (.tmp 33) = .pointer (some ⟨ba, oa + (j + 1) * 2, none⟩) := q0; have q1e : r (.tmp 30) = .bool true := q1; have hc := CF.out w1 (hg1.trans hg); exact ⟨⟨_, q1e, rfl⟩, by simp [go_sem, q0e, hc]⟩) ?_
                refine tab_call (v := .bool true) (fun w1 hg => H2.out w1) (fun r w1 hr hg hA => by obtain ⟨⟨_, q0⟩, ⟨_, q1⟩, -⟩ := hA; have q0e : r (.tmp 34) = .agg #[.int .i64 qx, .int .i64 qy] := q0; have q1e : r (.tmp 30) = .bool true := q1; exact ⟨⟨_, q1e, rfl⟩, by simp [go_sem, hr.func, q0e]⟩) ?_
                refine tab_val (.bool true) (fun r w1 hr hg hA => by obtain ⟨⟨_, q0⟩, ⟨_, q1⟩, -⟩ := hA; have q0e : r (.tmp 30) = .bool true := q0; have q1e : r (.tmp 35) = .bool true := q1; exact ⟨rfl, by simp [go_sem, q0e, q1e]⟩) ?_
                refine tab_val (.bool true) (fun r w1 hr hg hA => by obtain ⟨⟨_, q0⟩, -⟩ := hA; have q0e : r (.tmp 36) = .bool true := q0; exact ⟨rfl, by simp [go_sem, q0e]⟩) ?_
                refine tab_val (.agg #[.int .i64 lx, .int .i64 ly, .int .i64 hx, .int .i64 hy]) (fun r w1 hr hg hA => by obtain ⟨q0, ⟨_, q1⟩, -⟩ := hA; have q0e : r (.tmp 3) = .pointer (some ⟨w.heap.size, 0, none⟩) := q0; have q1e : r (.tmp 37) = .bool true := q1; have hc := CF.out w1 (hg1.trans hg); exact ⟨⟨_, q1e, rfl⟩, by simp [go_sem, q0e, hc]⟩) ?_
                refine tab_call (v := .bool true) (fun w1 hg => H3.out w1) (fun r w1 hr hg hA => by obtain ⟨⟨_, q0⟩, ⟨_, q1⟩, -⟩ := hA; have q0e : r (.tmp 38) = .agg #[.int .i64 lx, .int .i64 ly, .int .i64 hx, .int .i64 hy] := q0; have q1e : r (.tmp 37) = .bool true := q1; exact ⟨⟨_, q1e, rfl⟩, by simp [go_sem, hr.func, q0e]⟩) ?_
                refine tab_val (.bool true) (fun r w1 hr hg hA => by obtain ⟨⟨_, q0⟩, ⟨_, q1⟩, -⟩ := hA; have q0e : r (.tmp 37) = .bool true := q0; have q1e : r (.tmp 39) = .bool true := q1; exact ⟨rfl, by simp [go_sem, q0e, q1e]⟩) ?_
                refine tab_val (.bool true) (fun r w1 hr hg hA => by obtain ⟨⟨_, q0⟩, -⟩ := hA; have q0e : r (.tmp 40) = .bool true := q0; exact ⟨rfl, by simp [go_sem, q0e]⟩) ?_
                refine tab_val (.slice (some ⟨ba, oa, none⟩) n c) (fun r w1 hr hg hA => by obtain ⟨q0, ⟨_, q1⟩, -⟩ := hA; have q0e : r (.tmp 0) = .slice (some ⟨ba, oa, none⟩) n c := q0; have q1e : r (.tmp 41) = .bool true := q1; exact ⟨⟨_, q1e, rfl⟩, by simp [go_sem, q0e]⟩) ?_
                refine tab_val (.int .i64 ((j : Int) + 1)) (fun r w1 hr hg hA => by obtain ⟨q0, ⟨_, q1⟩, -⟩ := hA; have q0e : r (.tmp 5) = .int .i64 ((j : Int) + 1) := q0; have q1e : r (.tmp 41) = .bool true := q1; exact ⟨⟨_, q1e, rfl⟩, by simp [go_sem, q0e]⟩) ?_
                refine tab_val (.int .i64 (j : Int)) (fun r w1 hr hg hA => by obtain ⟨⟨_, q0⟩, ⟨_, q1⟩, -⟩ := hA; have q0e : r (.tmp 43) = .int .i64 ((j : Int) + 1) := q0; have q1e : r (.tmp 41) = .bool true := q1; exact ⟨⟨_, q1e, rfl⟩, by simp [go_sem, hr.const, q0e, i64w, hwr]⟩) ?_
                refine tab_val (.pointer (some ⟨ba, oa + j * 2, none⟩)) (fun r w1 hr hg hA => by obtain ⟨⟨_, q0⟩, ⟨_, q1⟩, ⟨_, q2⟩, -⟩ := hA; have q0e : r (.tmp 42) = .slice (some ⟨ba, oa, none⟩) n c := q0; have q1e : r (.tmp 44) = .int .i64 (j : Int) := q1; have q2e : r (.tmp 41) = .bool true := q2; exact ⟨⟨_, q2e, rfl⟩, by simp [go_sem, q0e, q1e, hjn]⟩) ?_
                refine tab_val (.agg #[.int .i64 px, .int .i64 py]) (fun r w1 hr hg hA => by obtain ⟨⟨_, q0⟩, ⟨_, q1⟩, -⟩ := hA; have q0e : r (.tmp 45) = .pointer (some ⟨ba, oa + j * 2, none⟩) := q0; have q1e : r (.tmp 41) = .bool true := q1; have hc := CF.out w1 (hg1.trans hg); exact ⟨⟨_, q1e, rfl⟩, by simp [go_sem, q0e, hc]⟩) ?_
                refine tab_val (.slice (some ⟨ba, oa, none⟩) n c) (fun r w1 hr hg hA => by obtain ⟨q0, ⟨_, q1⟩, -⟩ := hA; have q0e : r (.tmp 0) = .slice (some ⟨ba, oa, none⟩) n c := q0; have q1e : r (.tmp 41) = .bool true := q1; exact ⟨⟨_, q1e, rfl⟩, by simp [go_sem, q0e]⟩) ?_
                refine tab_val (.int .i64 ((j : Int) + 1)) (fun r w1 hr hg hA => by obtain ⟨q0, ⟨_, q1⟩, -⟩ := hA; have q0e : r (.tmp 5) = .int .i64 ((j : Int) + 1) := q0; have q1e : r (.tmp 41) = .bool true := q1; exact ⟨⟨_, q1e, rfl⟩, by simp [go_sem, q0e]⟩) ?_
                refine tab_val (.pointer (some ⟨ba, oa + (j + 1) * 2, none⟩)) (fun r w1 hr hg hA => by obtain ⟨⟨_, q0⟩, ⟨_, q1⟩, ⟨_, q2⟩, -⟩ := hA; have q0e : r (.tmp 47) = .slice (some ⟨ba, oa, none⟩) n c := q0; have q1e : r (.tmp 48) = .int .i64 ((j : Int) + 1) := q1; have q2e : r (.tmp 41) = .bool true := q2; exact ⟨⟨_, q2e, rfl⟩, by simp [go_sem, q0e, q1e, hs1, hs2]⟩) ?_
                refine tab_val (.agg #[.int .i64 qx, .int .i64 qy]) (fun r w1 hr hg hA => by obtain ⟨⟨_, q0⟩, ⟨_, q1⟩, -⟩ := hA; have q0e : r (.tmp 49) = .pointer (some ⟨ba, oa + (j + 1) * 2, none⟩) := q0; have q1e : r (.tmp 41) = .bool true := q1; have hc := CF.out w1 (hg1.trans hg); exact ⟨⟨_, q1e, rfl⟩, by simp [go_sem, q0e, hc]⟩) ?_
                refine tab_val (.agg #[.int .i64 lx, .int .i64 ly, .int .i64 hx, .int .i64 hy]) (fun r w1 hr hg hA => by obtain ⟨q0, ⟨_, q1⟩, -⟩ := hA; have q0e : r (.tmp 3) = .pointer (some ⟨w.heap.size, 0, none⟩) := q0; have q1e : r (.tmp 41) = .bool true := q1; have hc := CF.out w1 (hg1.trans hg); exact ⟨⟨_, q1e, rfl⟩, by simp [go_sem, q0e, hc]⟩) ?_
                refine tab_call (v := .bool false) (fun w1 hg => H4.out w1) (fun r w1 hr hg hA => by obtain ⟨⟨_, q0⟩, ⟨_, q1⟩, ⟨_, q2⟩, ⟨_, q3⟩, -⟩ := hA; have q0e : r (.tmp 46) = .agg #[.int .i64 px, .int .i64 py] := q0; have q1e : r (.tmp 50) = .agg #[.int .i64 qx, .int .i64 qy] := q1; have q2e : r (.tmp 51) = .agg #[.int .i64 lx, .int .i64 ly, .int .i64 hx, .int .i64 hy] := q2; have q3e : r (.tmp 41) = .bool true := q3; exact ⟨⟨_, q3e, rfl⟩, by simp [go_sem, hr.func, q0e, q1e, q2e]⟩) ?_
                refine tab_end ?_
                simp only [List.reverse_cons, List.reverse_nil, List.nil_append, List.cons_append, Out, BlockP, forall_eq, forall_const, Act.put, List.setIfInBounds_toArray, List.set_cons_succ, List.set_cons_zero]
                intro wA hgA
                have GA := Lib.hid (hg1.trans hgA)
                clear hg1 hgA hg1' hw0 hwr hs1 hs2
                go_wp2
                exact ⟨⟨j + 1, by simp, Lib.hid (fun i hi => (Nat.lt_succ_iff_lt_or_eq.1 hi).elim (fun h => HB.out i h) (fun h => by rw [h]; exact HE.out)), Lib.hid (G.out.trans GA.out)⟩, by simp only [intOf]; omega⟩
              | true =>
                have HE := Lib.hid (HED.out.trans (by simp [e]) : redge ⟨lx, ly, hx, hy⟩ (gp l j) (gp l (j + 1)) = true)
                go_wp2_with fail
                refine wp_region_tab 41 (by kernel_rfl) (by kernel_rfl) ?_
                intro w0 hw0 hg1 hg1'
                simp only [List.take_succ_cons, List.take_zero, List.drop_succ_cons, List.drop_zero]
                refine tab_val (.slice (some ⟨ba, oa, none⟩) n c) (fun r w1 hr hg hA => by obtain ⟨q0, -⟩ := hA; have q0e : r (.tmp 0) = .slice (some ⟨ba, oa, none⟩) n c := q0; exact ⟨rfl, by simp [go_sem, q0e]⟩) ?_
                refine tab_val (.int .i64 ((j : Int) + 1)) (fun r w1 hr hg hA => by obtain ⟨q0, -⟩ := hA; have q0e : r (.tmp 5) = .int .i64 ((j : Int) + 1) := q0; exact ⟨rfl, by simp [go_sem, q0e]⟩) ?_
                refine tab_val (.int .i64 (j : Int)) (fun r w1 hr hg hA => by obtain ⟨⟨_, q0⟩, -⟩ := hA; have q0e : r (.tmp 13) = .int .i64 ((j : Int) + 1) := q0; exact ⟨rfl, by simp [go_sem, hr.const, q0e, i64w, hwr]⟩) ?_
                refine tab_val (.pointer (some ⟨ba, oa + j * 2, none⟩)) (fun r w1 hr hg hA => by obtain ⟨⟨_, q0⟩, ⟨_, q1⟩, -⟩ := hA; have q0e : r (.tmp 12) = .slice (some ⟨ba, oa, none⟩) n c := q0; have q1e : r (.tmp 14) = .int .i64 (j : Int) := q1; exact ⟨rfl, by simp [go_sem, q0e, q1e, hjn]⟩) ?_
                refine tab_val (.agg #[.int .i64 px, .int .i64 py]) (fun r w1 hr hg hA => by obtain ⟨⟨_, q0⟩, -⟩ := hA; have q0e : r (.tmp 15) = .pointer (some ⟨ba, oa + j * 2, none⟩) := q0; have hc := CF.out w1 (hg1.trans hg); exact ⟨rfl, by simp [go_sem, q0e, hc]⟩) ?_
                refine tab_val (.slice (some ⟨ba, oa, none⟩) n c) (fun r w1 hr hg hA => by obtain ⟨q0, -⟩ := hA; have q0e : r (.tmp 0) = .slice (some ⟨ba, oa, none⟩) n c := q0; exact ⟨rfl, by simp [go_sem, q0e]⟩) ?_
                refine tab_val (.int .i64 ((j : Int) + 1)) (fun r w1 hr hg hA => by obtain ⟨q0, -⟩ := hA; have q0e : r (.tmp 5) = .int .i64 ((j : Int) + 1) := q0; exact ⟨rfl, by simp [go_sem, q0e]⟩) ?_
                refine tab_val (.pointer (some ⟨ba, oa + (j + 1) * 2, none⟩)) (fun r w1 hr hg hA => by obtain ⟨⟨_, q0⟩, ⟨_, q1⟩, -⟩ := hA; have q0e : r (.tmp 17) = .slice (some ⟨ba, oa, none⟩) n c := q0; have q1e : r (.tmp 18) = .int .i64 ((j : Int) + 1) := q1; exact ⟨rfl, by simp [go_sem, q0e, q1e, hs1, hs2]⟩) ?_
                refine tab_val (.agg #[.int .i64 qx, .int .i64 qy]) (fun r w1 hr hg hA => by obtain ⟨⟨_, q0⟩, -⟩ := hA; have q0e : r (.tmp 19) = .pointer (some ⟨ba, oa + (j + 1) * 2, none⟩) := q0; have hc := CF.out w1 (hg1.trans hg); exact ⟨rfl, by simp [go_sem, q0e, hc]⟩) ?_
                refine tab_val (.bool true) (fun r w1 hr hg hA => by obtain ⟨⟨_, q0⟩, ⟨_, q1⟩, -⟩ := hA; have q0e : r (.tmp 16) = .agg #[.int .i64 px, .int .i64 py] := q0; have q1e : r (.tmp 20) = .agg #[.int .i64 qx, .int .i64 qy] := q1; exact ⟨rfl, by simp [go_sem, q0e, q1e, e]⟩) ?_
                refine tab_val (.bool true) (fun r w1 hr hg hA => by obtain ⟨⟨_, q0⟩, -⟩ := hA; have q0e : r (.tmp 21) = .bool true := q0; exact ⟨rfl, by simp [go_sem, q0e]⟩) ?_
                refine tab_val (.slice (some ⟨ba, oa, none⟩) n c) (fun r w1 hr hg hA => by obtain ⟨q0, ⟨_, q1⟩, -⟩ := hA; have q0e : r (.tmp 0) = .slice (some ⟨ba, oa, none⟩) n c := q0; have q1e : r (.tmp 22) = .bool true := q1; exact ⟨⟨_, q1e, rfl⟩, by simp [go_sem, q0e]⟩) ?_
                refine tab_val (.int .i64 ((j : Int) + 1)) (fun r w1 hr hg hA => by obtain ⟨q0, ⟨_, q1⟩, -⟩ := hA; have q0e : r (.tmp 5) = .int .i64 ((j : Int) + 1) := q0; have q1e : r (.tmp 22) = .bool true := q1; exact ⟨⟨_, q1e, rfl⟩, by simp [go_sem, q0e]⟩) ?_
                refine tab_val (.int .i64 (j : Int)) (fun r w1 hr hg hA => by obtain ⟨⟨_, q0⟩, ⟨_, q1⟩, -⟩ := hA; have q0e : r (.tmp 24) = .int .i64 ((j : Int) + 1) := q0; have q1e : r (.tmp 22) = .bool true := q1; exact ⟨⟨_, q1e, rfl⟩, by simp [go_sem, hr.const, q0e, i64w, hwr]⟩) ?_
                refine tab_val (.pointer (some ⟨ba, oa + j * 2, none⟩)) (fun r w1 hr hg hA => by obtain ⟨⟨_, q0⟩, ⟨_, q1⟩, ⟨_, q2⟩, -⟩ := hA; have q0e : r (.tmp 23) = .slice (some ⟨ba, oa, none⟩) n c := q0; have q1e : r (.tmp 25) = .int .i64 (j : Int) := q1; have q2e : r (.tmp 22) = .bool true := q2; exact ⟨⟨_, q2e, rfl⟩, by simp [go_sem, q0e, q1e, hjn]⟩) ?_
                refine tab_val (.agg #[.int .i64 px, .int .i64 py]) (fun r w1 hr hg hA => by obtain ⟨⟨_, q0⟩, ⟨_, q1⟩, -⟩ := hA; have q0e : r (.tmp 26) = .pointer (some ⟨ba, oa + j * 2, none⟩) := q0; have q1e : r (.tmp 22) = .bool true := q1; have hc := CF.out w1 (hg1.trans hg); exact ⟨⟨_, q1e, rfl⟩, by simp [go_sem, q0e, hc]⟩) ?_
                refine tab_call (v := .bool true) (fun w1 hg => H1.out w1) (fun r w1 hr hg hA => by obtain ⟨⟨_, q0⟩, ⟨_, q1⟩, -⟩ := hA; have q0e : r (.tmp 27) = .agg #[.int .i64 px, .int .i64 py] := q0; have q1e : r (.tmp 22) = .bool true := q1; exact ⟨⟨_, q1e, rfl⟩, by simp [go_sem, hr.func, q0e]⟩) ?_
                refine tab_val (.bool true) (fun r w1 hr hg hA => by obtain ⟨⟨_, q0⟩, ⟨_, q1⟩, -⟩ := hA; have q0e : r (.tmp 22) = .bool true := q0; have q1e : r (.tmp 28) = .bool true := q1; exact ⟨rfl, by simp [go_sem, q0e, q1e]⟩) ?_
                refine tab_val (.bool true) (fun r w1 hr hg hA => by obtain ⟨⟨_, q0⟩, -⟩ := hA; have q0e : r (.tmp 29) = .bool true := q0; exact ⟨rfl, by simp [go_sem, q0e]⟩) ?_
                refine tab_val (.slice (some ⟨ba, oa, none⟩) n c) (fun r w1 hr hg hA => by obtain ⟨q0, ⟨_, q1⟩, -⟩ := hA; have q0e : r (.tmp 0) = .slice (some ⟨ba, oa, none⟩) n c := q0; have q1e : r (.tmp 30) = .bool true := q1; exact ⟨⟨_, q1e, rfl⟩, by simp [go_sem, q0e]⟩) ?_
                refine tab_val (.int .i64 ((j : Int) + 1)) (fun r w1 hr hg hA => by obtain ⟨q0, ⟨_, q1⟩, -⟩ := hA; have q0e : r (.tmp 5) = .int .i64 ((j : Int) + 1) := q0; have q1e : r (.tmp 30) = .bool true := q1; exact ⟨⟨_, q1e, rfl⟩, by simp [go_sem, q0e]⟩) ?_
                refine tab_val (.pointer (some ⟨ba, oa + (j + 1) * 2, none⟩)) (fun r w1 hr hg hA => by obtain ⟨⟨_, q0⟩, ⟨_, q1⟩, ⟨_, q2⟩, -⟩ := hA; have q0e : r (.tmp 31) = .slice (some ⟨ba, oa, none⟩) n c := q0; have q1e : r (.tmp 32) = .int .i64 ((j : Int) + 1) := q1; have q2e : r (.tmp 30) = .bool true := q2; exact ⟨⟨_, q2e, rfl⟩, by simp [go_sem, q0e, q1e, hs1, hs2]⟩) ?_
                refine tab_val (.agg #[.int .i64 qx, .int .i64 qy]) (fun r w1 hr hg hA => by obtain ⟨⟨_, q0⟩, ⟨_, q1⟩, -⟩ := hA; have q0e : r (.tmp 33) = .pointer (some ⟨ba, oa + (j + 1) * 2, none⟩) := q0; have q1e : r (.tmp 30) = .bool true := q1; have hc := CF.out w1 (hg1.trans hg); exact ⟨⟨_, q1e, rfl⟩, by simp [go_sem, q0e, hc]⟩) ?_
                refine tab_call (v := .bool true) (fun w1 hg => H2.out w1) (fun r w1 hr hg hA => by obtain ⟨⟨_, q0⟩, ⟨_, q1⟩, -⟩ := hA; have q0e : r (.tmp 34) = .agg #[.int .i64 qx, .int .i64 qy] := q0; have q1e : r (.tmp 30) = .bool true := q1; exact ⟨⟨_, q1e, rfl⟩, by simp [go_sem, hr.func, q0e]⟩) ?_
                refine tab_val (.bool true) (fun r w1 hr hg hA => by obtain ⟨⟨_, q0⟩, ⟨_, q1⟩, -⟩ := hA; have q0e : r (.tmp 30) = .bool true := q0; have q1e : r (.tmp 35) = .bool true := q1; exact ⟨rfl, by simp [go_sem, q0e, q1e]⟩) ?_
                refine tab_val (.bool true) (fun r w1 hr hg hA => by obtain ⟨⟨_, q0⟩, -⟩ := hA; have q0e : r (.tmp 36) = .bool true := q0; exact ⟨rfl, by simp [go_sem, q0e]⟩) ?_
                refine tab_val (.agg #[.int .i64 lx, .int .i64 ly, .int .i64 hx, .int .i64 hy]) (fun r w1 hr hg hA => by obtain ⟨q0, ⟨_, q1⟩, -⟩ := hA; have q0e : r (.tmp 3) = .pointer (some ⟨w.heap.size, 0, none⟩) := q0; have q1e : r (.tmp 37) = .bool true := q1; have hc := CF.out w1 (hg1.trans hg); exact ⟨⟨_, q1e, rfl⟩, by simp [go_sem, q0e, hc]⟩) ?_
                refine tab_call (v := .bool true) (fun w1 hg => H3.out w1) (fun r w1 hr hg hA => by obtain ⟨⟨_, q0⟩, ⟨_, q1⟩, -⟩ := hA; have q0e : r (.tmp 38) = .agg #[.int .i64 lx, .int .i64 ly, .int .i64 hx, .int .i64 hy] := q0; have q1e : r (.tmp 37) = .bool true := q1; exact ⟨⟨_, q1e, rfl⟩, by simp [go_sem, hr.func, q0e]⟩) ?_
                refine tab_val (.bool true) (fun r w1 hr hg hA => by obtain ⟨⟨_, q0⟩, ⟨_, q1⟩, -⟩ := hA; have q0e : r (.tmp 37) = .bool true := q0; have q1e : r (.tmp 39) = .bool true := q1; exact ⟨rfl, by simp [go_sem, q0e, q1e]⟩) ?_
                refine tab_val (.bool true) (fun r w1 hr hg hA => by obtain ⟨⟨_, q0⟩, -⟩ := hA; have q0e : r (.tmp 40) = .bool true := q0; exact ⟨rfl, by simp [go_sem, q0e]⟩) ?_
                refine tab_val (.slice (some ⟨ba, oa, none⟩) n c) (fun r w1 hr hg hA => by obtain ⟨q0, ⟨_, q1⟩, -⟩ := hA; have q0e : r (.tmp 0) = .slice (some ⟨ba, oa, none⟩) n c := q0; have q1e : r (.tmp 41) = .bool true := q1; exact ⟨⟨_, q1e, rfl⟩, by simp [go_sem, q0e]⟩) ?_
                refine tab_val (.int .i64 ((j : Int) + 1)) (fun r w1 hr hg hA => by obtain ⟨q0, ⟨_, q1⟩, -⟩ := hA; have q0e : r (.tmp 5) = .int .i64 ((j : Int) + 1) := q0; have q1e : r (.tmp 41) = .bool true := q1; exact ⟨⟨_, q1e, rfl⟩, by simp [go_sem, q0e]⟩) ?_
                refine tab_val (.int .i64 (j : Int)) (fun r w1 hr hg hA => by obtain ⟨⟨_, q0⟩, ⟨_, q1⟩, -⟩ := hA; have q0e : r (.tmp 43) = .int .i64 ((j : Int) + 1) := q0; have q1e : r (.tmp 41) = .bool true := q1; exact ⟨⟨_, q1e, rfl⟩, by simp [go_sem, hr.const, q0e, i64w, hwr]⟩) ?_
                refine tab_val (.pointer (some ⟨ba, oa + j * 2, none⟩)) (fun r w1 hr hg hA => by obtain ⟨⟨_, q0⟩, ⟨_, q1⟩, ⟨_, q2⟩, -⟩ := hA; have q0e : r (.tmp 42) = .slice (some ⟨ba, oa, none⟩) n c := q0; have q1e : r (.tmp 44) = .int .i64 (j : Int) := q1; have q2e : r (.tmp 41) = .bool true := q2; exact ⟨⟨_, q2e, rfl⟩, by simp [go_sem, q0e, q1e, hjn]⟩) ?_
                refine tab_val (.agg #[.int .i64 px, .int .i64 py]) (fun r w1 hr hg hA => by obtain ⟨⟨_, q0⟩, ⟨_, q1⟩, -⟩ := hA; have q0e : r (.tmp 45) = .pointer (some ⟨ba, oa + j * 2, none⟩) := q0; have q1e : r (.tmp 41) = .bool true := q1; have hc := CF.out w1 (hg1.trans hg); exact ⟨⟨_, q1e, rfl⟩, by simp [go_sem, q0e, hc]⟩) ?_
                refine tab_val (.slice (some ⟨ba, oa, none⟩) n c) (fun r w1 hr hg hA => by obtain ⟨q0, ⟨_, q1⟩, -⟩ := hA; have q0e : r (.tmp 0) = .slice (some ⟨ba, oa, none⟩) n c := q0; have q1e : r (.tmp 41) = .bool true := q1; exact ⟨⟨_, q1e, rfl⟩, by simp [go_sem, q0e]⟩) ?_
                refine tab_val (.int .i64 ((j : Int) + 1)) (fun r w1 hr hg hA => by obtain ⟨q0, ⟨_, q1⟩, -⟩ := hA; have q0e : r (.tmp 5) = .int .i64 ((j : Int) + 1) := q0; have q1e : r (.tmp 41) = .bool true := q1; exact ⟨⟨_, q1e, rfl⟩, by simp [go_sem, q0e]⟩) ?_
                refine tab_val (.pointer (some ⟨ba, oa + (j + 1) * 2, none⟩)) (fun r w1 hr hg hA => by obtain ⟨⟨_, q0⟩, ⟨_, q1⟩, ⟨_, q2⟩, -⟩ := hA; have q0e : r (.tmp 47) = .slice (some ⟨ba, oa, none⟩) n c := q0; have q1e : r (.tmp 48) = .int .i64 ((j : Int) + 1) := q1; have q2e : r (.tmp 41) = .bool true := q2; exact ⟨⟨_, q2e, rfl⟩, by simp [go_sem, q0e, q1e, hs1, hs2]⟩) ?_
                refine tab_val (.agg #[.int .i64 qx, .int .i64 qy]) (fun r w1 hr hg hA => by obtain ⟨⟨_, q0⟩, ⟨_, q1⟩, -⟩ := hA; have q0e : r (.tmp 49) = .pointer (some ⟨ba, oa + (j + 1) * 2, none⟩) := q0; have q1e : r (.tmp 41) = .bool true := q1; have hc := CF.out w1 (hg1.trans hg); exact ⟨⟨_, q1e, rfl⟩, by simp [go_sem, q0e, hc]⟩) ?_
                refine tab_val (.agg #[.int .i64 lx, .int .i64 ly, .int .i64 hx, .int .i64 hy]) (fun r w1 hr hg hA => by obtain ⟨q0, ⟨_, q1⟩, -⟩ := hA; have q0e : r (.tmp 3) = .pointer (some ⟨w.heap.size, 0, none⟩) := q0; have q1e : r (.tmp 41) = .bool true := q1; have hc := CF.out w1 (hg1.trans hg); exact ⟨⟨_, q1e, rfl⟩, by simp [go_sem, q0e, hc]⟩) ?_
                refine tab_call (v := .bool true) (fun w1 hg => H4.out w1) (fun r w1 hr hg hA => by obtain ⟨⟨_, q0⟩, ⟨_, q1⟩, ⟨_, q2⟩, ⟨_, q3⟩, -⟩ := hA; have q0e : r (.tmp 46) = .agg #[.int .i64 px, .int .i64 py] := q0; have q1e : r (.tmp 50) = .agg #[.int .i64 qx, .int .i64 qy] := q1; have q2e : r (.tmp 51) = .agg #[.int .i64 lx, .int .i64 ly, .int .i64 hx, .int .i64 hy] := q2; have q3e : r (.tmp 41) = .bool true := q3; exact ⟨⟨_, q3e, rfl⟩, by simp [go_sem, hr.func, q0e, q1e, q2e]⟩) ?_
                refine tab_end ?_
                simp only [List.reverse_cons, List.reverse_nil, List.nil_append, List.cons_append, Out, BlockP, forall_eq, forall_const, Act.put, List.setIfInBounds_toArray, List.set_cons_succ, List.set_cons_zero]
                intro wA hgA
                have GA := Lib.hid (hg1.trans hgA)
                clear hg1 hgA hg1' hw0 hwr hs1 hs2
                go_wp2
                go_ret
                exact ⟨ret_bool (redge_yes (by rw [← HN.out]; omega) HE.out).symm, ((Grows.refl w).al _).trans (G.out.trans GA.out)⟩
      · have hne : ¬ (px = px ∧ py = qy) := fun h => e h.2
        have HIN4 := Lib.hid (HIN4.out hne)
        have HNE := Lib.hid (decide_eq_false hne)
        rw [HNE.out] at HED
        clear hne
        cases m1 with
        | false =>
          have HE := Lib.hid (HED.out.trans (by simp) : redge ⟨lx, ly, hx, hy⟩ (gp l j) (gp l (j + 1)) = false)
          go_wp2_with fail
          refine wp_region_tab 41 (by kernel_rfl) (by kernel_rfl) ?_
          intro w0 hw0 hg1 hg1'
          simp only [List.take_succ_cons, List.take_zero, List.drop_succ_cons, List.drop_zero]
          refine tab_val (.slice (some ⟨ba, oa, none⟩) n c) (fun r w1 hr hg hA => by obtain ⟨q0, -⟩ := hA; have q0e : r (.tmp 0) = .slice (some ⟨ba, oa, none⟩) n c := q0; exact ⟨rfl, by simp [go_sem, q0e]⟩) ?_
          refine tab_val (.int .i64 ((j : Int) + 1)) (fun r w1 hr hg hA => by obtain ⟨q0, -⟩ := hA; have q0e : r (.tmp 5) = .int .i64 ((j : Int) + 1) := q0; exact ⟨rfl, by simp [go_sem, q0e]⟩) ?_
          refine tab_val (.int .i64 (j : Int)) (fun r w1 hr hg hA => by obtain ⟨⟨_, q0⟩, -⟩ := hA; have q0e : r (.tmp 13) = .int .i64 ((j : Int) + 1) := q0; exact ⟨rfl, by simp [go_sem, hr.const, q0e, i64w, hwr]⟩) ?_
          refine tab_val (.pointer (some ⟨ba, oa + j * 2, none⟩)) (fun r w1 hr hg hA => by obtain ⟨⟨_, q0⟩, ⟨_, q1⟩, -⟩ := hA; have q0e : r (.tmp 12) = .slice (some ⟨ba, oa, none⟩) n c := q0; have q1e : r (.tmp 14) = .int .i64 (j : Int) := q1; exact ⟨rfl, by simp [go_sem, q0e, q1e, hjn]⟩) ?_
          refine tab_val (.agg #[.int .i64 px, .int .i64 py]) (fun r w1 hr hg hA => by obtain ⟨⟨_, q0⟩, -⟩ := hA; have q0e : r (.tmp 15) = .pointer (some ⟨ba, oa + j * 2, none⟩) := q0; have hc := CF.out w1 (hg1.trans hg); exact ⟨rfl, by simp [go_sem, q0e, hc]⟩) ?_
          refine tab_val (.slice (some ⟨ba, oa, none⟩) n c) (fun r w1 hr hg hA => by obtain ⟨q0, -⟩ := hA; have q0e : r (.tmp 0) = .slice (some ⟨ba, oa, none⟩) n c := q0; exact ⟨rfl, by simp [go_sem, q0e]⟩) ?_
          refine tab_val (.int .i64 ((j : Int) + 1)) (fun r w1 hr hg hA => by obtain ⟨q0, -⟩ := hA; have q0e : r (.tmp 5) = .int .i64 ((j : Int) + 1) := q0; exact ⟨rfl, by simp [go_sem, q0e]⟩) ?_
          refine tab_val (.pointer (some ⟨ba, oa + (j + 1) * 2, none⟩)) (fun r w1 hr hg hA => by obtain ⟨⟨_, q0⟩, ⟨_, q1⟩, -⟩ := hA; have q0e : r (.tmp 17) = .slice (some ⟨ba, oa, none⟩) n c := q0; have q1e : r (.tmp 18) = .int .i64 ((j : Int) + 1) := q1; exact ⟨rfl, by simp [go_sem, q0e, q1e, hs1, hs2]⟩) ?_
          refine tab_val (.agg #[.int .i64 px, .int .i64 qy]) (fun r w1 hr hg hA => by obtain ⟨⟨_, q0⟩, -⟩ := hA; have q0e : r (.tmp 19) = .pointer (some ⟨ba, oa + (j + 1) * 2, none⟩) := q0; have hc := CF.out w1 (hg1.trans hg); exact ⟨rfl, by simp [go_sem, q0e, hc]⟩) ?_
          refine tab_val (.bool true) (fun r w1 hr hg hA => by obtain ⟨⟨_, q0⟩, ⟨_, q1⟩, -⟩ := hA; have q0e : r (.tmp 16) = .agg #[.int .i64 px, .int .i64 py] := q0; have q1e : r (.tmp 20) = .agg #[.int .i64 px, .int .i64 qy] := q1; exact ⟨rfl, by simp [go_sem, q0e, q1e, e]⟩) ?_
          refine tab_val (.bool true) (fun r w1 hr hg hA => by obtain ⟨⟨_, q0⟩, -⟩ := hA; have q0e : r (.tmp 21) = .bool true := q0; exact ⟨rfl, by simp [go_sem, q0e]⟩) ?_
          refine tab_val (.slice (some ⟨ba, oa, none⟩) n c) (fun r w1 hr hg hA => by obtain ⟨q0, ⟨_, q1⟩, -⟩ := hA; have q0e : r (.tmp 0) = .slice (some ⟨ba, oa, none⟩) n c := q0; have q1e : r (.tmp 22) = .bool true := q1; exact ⟨⟨_, q1e, rfl⟩, by simp [go_sem, q0e]⟩) ?_
          refine tab_val (.int .i64 ((j : Int) + 1)) (fun r w1 hr hg hA => by obtain ⟨q0, ⟨_, q1⟩, -⟩ := hA; have q0e : r (.tmp 5) = .int .i64 ((j : Int) + 1) := q0; have q1e : r (.tmp 22) = .bool true := q1; exact ⟨⟨_, q1e, rfl⟩, by simp [go_sem, q0e]⟩) ?_
          refine tab_val (.int .i64 (j : Int)) (fun r w1 hr hg hA => by obtain ⟨⟨_, q0⟩, ⟨_, q1⟩, -⟩ := hA; have q0e : r (.tmp 24) = .int .i64 ((j : Int) + 1) := q0; have q1e : r (.tmp 22) = .bool true := q1; exact ⟨⟨_, q1e, rfl⟩, by simp [go_sem, hr.const, q0e, i64w, hwr]⟩) ?_
          refine tab_val (.pointer (some ⟨ba, oa + j * 2, none⟩)) (fun r w1 hr hg hA => by obtain ⟨⟨_, q0⟩, ⟨_, q1⟩, ⟨_, q2⟩, -⟩ := hA; have q0e : r (.tmp 23) = .slice (some ⟨ba, oa, none⟩) n c := q0; have q1e : r (.tmp 25) = .int .i64 (j : Int) := q1; have q2e : r (.tmp 22) = .bool true := q2; exact ⟨⟨_, q2e, rfl⟩, by simp [go_sem, q0e, q1e, hjn]⟩) ?_
          refine tab_val (.agg #[.int .i64 px, .int .i64 py]) (fun r w1 hr hg hA => by obtain ⟨⟨_, q0⟩, ⟨_, q1⟩, -⟩ := hA; have q0e : r (.tmp 26) = .pointer (some ⟨ba, oa + j * 2, none⟩) := q0; have q1e : r (.tmp 22) = .bool true := q1; have hc := CF.out w1 (hg1.trans hg); exact ⟨⟨_, q1e, rfl⟩, by simp [go_sem, q0e, hc]⟩) ?_
          refine tab_call (v := .bool false) (fun w1 hg => H1.out w1) (fun r w1 hr hg hA => by obtain ⟨⟨_, q0⟩, ⟨_, q1⟩, -⟩ := hA; have q0e : r (.tmp 27) = .agg #[.int .i64 px, .int .i64 py] := q0; have q1e : r (.tmp 22) = .bool true := q1; exact ⟨⟨_, q1e, rfl⟩, by simp [go_sem, hr.func, q0e]⟩) ?_
          refine tab_val (.bool false) (fun r w1 hr hg hA => by obtain ⟨⟨_, q0⟩, ⟨_, q1⟩, -⟩ := hA; have q0e : r (.tmp 22) = .bool true := q0; have q1e : r (.tmp 28) = .bool false := q1; exact ⟨rfl, by simp [go_sem, q0e, q1e]⟩) ?_
          refine tab_val (.bool false) (fun r w1 hr hg hA => by obtain ⟨⟨_, q0⟩, -⟩ := hA; have q0e : r (.tmp 29) = .bool false := q0; exact ⟨rfl, by simp [go_sem, q0e]⟩) ?_
          refine tab_skip (fun r w1 hr hg hA => by obtain ⟨q0, ⟨_, q1⟩, -⟩ := hA; have q0e : r (.tmp 0) = .slice (some ⟨ba, oa, none⟩) n c := q0; have q1e : r (.tmp 30) = .bool false := q1; exact ⟨_, q1e, rfl⟩) ?_
          refine tab_skip (fun r w1 hr hg hA => by obtain ⟨q0, ⟨_, q1⟩, -⟩ := hA; have q0e : r (.tmp 5) = .int .i64 ((j : Int) + 1) := q0; have q1e : r (.tmp 30) = .bool false := q1; exact ⟨_, q1e, rfl⟩) ?_
          refine tab_skip (fun r w1 hr hg hA => by obtain ⟨⟨_, q0⟩, ⟨_, q1⟩, ⟨_, q2⟩, -⟩ := hA; have q0e : r (.tmp 31) = undef := q0; have q1e : r (.tmp 32) = undef := q1; have q2e : r (.tmp 30) = .bool false := q2; exact ⟨_, q2e, rfl⟩) ?_
          refine tab_skip (fun r w1 hr hg hA => by obtain ⟨⟨_, q0⟩, ⟨_, q1⟩, -⟩ := hA; have q0e : r (.tmp 33) = undef := q0; have q1e : r (.tmp 30) = .bool false := q1; exact ⟨_, q1e, rfl⟩) ?_
          refine tab_skip (fun r w1 hr hg hA => by obtain ⟨⟨_, q0⟩, ⟨_, q1⟩, -⟩ := hA; have q0e : r (.tmp 34) = undef := q0; have q1e : r (.tmp 30) = .bool false := q1; exact ⟨_, q1e, rfl⟩) ?_
          refine tab_val (.bool false) (fun r w1 hr hg hA => by obtain ⟨⟨_, q0⟩, ⟨_, q1⟩, -⟩ := hA; have q0e : r (.tmp 30) = .bool false := q0; have q1e : r (.tmp 35) = undef := q1; exact ⟨rfl, by simp [go_sem, hr.const, q0e]⟩) ?_
          refine tab_val (.bool false) (fun r w1 hr hg hA => by obtain ⟨⟨_, q0⟩, -⟩ := hA; have q0e : r (.tmp 36) = .bool false := q0; exact ⟨rfl, by simp [go_sem, q0e]⟩) ?_
          refine tab_skip (fun r w1 hr hg hA => by obtain ⟨q0, ⟨_, q1⟩, -⟩ := hA; have q0e : r (.tmp 3) = .pointer (some ⟨w.heap.size, 0, none⟩) := q0; have q1e : r (.tmp 37) = .bool false := q1; exact ⟨_, q1e, rfl⟩) ?_
          refine tab_skip (fun r w1 hr hg hA => by obtain ⟨⟨_, q0⟩, ⟨_, q1⟩, -⟩ := hA; have q0e : r (.tmp 38) = undef := q0; have q1e : r (.tmp 37) = .bool false := q1; exact ⟨_, q1e, rfl⟩) ?_
          refine tab_val (.bool false) (fun r w1 hr hg hA => by obtain ⟨⟨_, q0⟩, ⟨_, q1⟩, -⟩ := hA; have q0e : r (.tmp 37) = .bool false := q0; have q1e : r (.tmp 39) = undef := q1; exact ⟨rfl, by simp [go_sem, hr.const, q0e]⟩) ?_
          refine tab_val (.bool false) (fun r w1 hr hg hA => by obtain ⟨⟨_, q0⟩, -⟩ := hA; have q0e : r (.tmp 40) = .bool false := q0; exact ⟨rfl, by simp [go_sem, q0e]⟩) ?_
          refine tab_skip (fun r w1 hr hg hA => by obtain ⟨q0, ⟨_, q1⟩, -⟩ := hA; have q0e : r (.tmp 0) = .slice (some ⟨ba, oa, none⟩) n c := q0; have q1e : r (.tmp 41) = .bool false := q1; exact ⟨_, q1e, rfl⟩) ?_
          refine tab_skip (fun r w1 hr hg hA => by obtain ⟨q0, ⟨_, q1⟩, -⟩ := hA; have q0e : r (.tmp 5) = .int .i64 ((j : Int) + 1) := q0; have q1e : r (.tmp 41) = .bool false := q1; exact ⟨_, q1e, rfl⟩) ?_
          refine tab_skip (fun r w1 hr hg hA => by obtain ⟨⟨_, q0⟩, ⟨_, q1⟩, -⟩ := hA; have q0e : r (.tmp 43) = undef := q0; have q1e : r (.tmp 41) = .bool false := q1; exact ⟨_, q1e, rfl⟩) ?_
          refine tab_skip (fun r w1 hr hg hA => by obtain ⟨⟨_, q0⟩, ⟨_, q1⟩, ⟨_, q2⟩, -⟩ := hA; have q0e : r (.tmp 42) = undef := q0; have q1e : r (.tmp 44) = undef := q1; have q2e : r (.tmp 41) = .bool false := q2; exact ⟨_, q2e, rfl⟩) ?_
          refine tab_skip (fun r w1 hr hg hA => by obtain ⟨⟨_, q0⟩, ⟨_, q1⟩, -⟩ := hA; have q0e : r (.tmp 45) = undef := q0; have q1e : r (.tmp 41) = .bool false := q1; exact ⟨_, q1e, rfl⟩) ?_
          refine tab_skip (fun r w1 hr hg hA => by obtain ⟨q0, ⟨_, q1⟩, -⟩ := hA; have q0e : r (.tmp 0) = .slice (some ⟨ba, oa, none⟩) n c := q0; have q1e : r (.tmp 41) = .bool false := q1; exact ⟨_, q1e, rfl⟩) ?_
          refine tab_skip (fun r w1 hr hg hA => by obtain ⟨q0, ⟨_, q1⟩, -⟩ := hA; have q0e : r (.tmp 5) = .int .i64 ((j : Int) + 1) := q0; have q1e : r (.tmp 41) = .bool false := q1; exact ⟨_, q1e, rfl⟩) ?_
          refine tab_skip (fun r w1 hr hg hA => by obtain ⟨⟨_, q0⟩, ⟨_, q1⟩, ⟨_, q2⟩, -⟩ := hA; have q0e : r (.tmp 47) = undef := q0; have q1e : r (.tmp 48) = undef := q1; have q2e : r (.tmp 41) = .bool false := q2; exact ⟨_, q2e, rfl⟩) ?_
          refine tab_skip (fun r w1 hr hg hA => by obtain ⟨⟨_, q0⟩, ⟨_, q1⟩, -⟩ := hA; have q0e : r (.tmp 49) = undef := q0; have q1e : r (.tmp 41) = .bool false := q1; exact ⟨_, q1e, rfl⟩) ?_
          refine tab_skip (fun r w1 hr hg hA => by obtain ⟨q0, ⟨_, q1⟩, -⟩ := hA; have q0e : r (.tmp 3) = .pointer (some ⟨w.heap.size, 0, none⟩) := q0; have q1e : r (.tmp 41) = .bool false := q1; exact ⟨_, q1e, rfl⟩) ?_
          refine tab_skip (fun r w1 hr hg hA => by obtain ⟨⟨_, q0⟩, ⟨_, q1⟩, ⟨_, q2⟩, ⟨_, q3⟩, -⟩ := hA; have q0e : r (.tmp 46) = undef := q0; have q1e : r (.tmp 50) = undef := q1; have q2e : r (.tmp 51) = undef := q2; have q3e : r (.tmp 41) = .bool false := q3; exact ⟨_, q3e, rfl⟩) ?_
          refine tab_end ?_
          simp only [List.reverse_cons, List.reverse_nil, List.nil_append, List.cons_append, Out, BlockP, forall_eq, forall_const, Act.put, List.setIfInBounds_toArray, List.set_cons_succ, List.set_cons_zero]
          intro wA hgA
          have GA := Lib.hid (hg1.trans hgA)
          clear hg1 hgA hg1' hw0 hwr hs1 hs2
          go_wp2
          exact ⟨⟨j + 1, by simp, Lib.hid (fun i hi => (Nat.lt_succ_iff_lt_or_eq.1 hi).elim (fun h => HB.out i h) (fun h => by rw [h]; exact HE.out)), Lib.hid (G.out.trans GA.out)⟩, by simp only [intOf]; omega⟩
        | true =>
          cases m2 with
          | false =>
            have HE := Lib.hid (HED.out.trans (by simp) : redge ⟨lx, ly, hx, hy⟩ (gp l j) (gp l (j + 1)) = false)
            go_wp2_with fail
            refine wp_region_tab 41 (by kernel_rfl) (by kernel_rfl) ?_
            intro w0 hw0 hg1 hg1'
            simp only [List.take_succ_cons, List.take_zero, List.drop_succ_cons, List.drop_zero]
            refine tab_val (.slice (some ⟨ba, oa, none⟩) n c) (fun r w1 hr hg hA => by obtain ⟨q0, -⟩ := hA; have q0e : r (.tmp 0) = .slice (some ⟨ba, oa, none⟩) n c := q0; exact ⟨rfl, by simp [go_sem, q0e]⟩) ?_
            refine tab_val (.int .i64 ((j : Int) + 1)) (fun r w1 hr hg hA => by obtain ⟨q0, -⟩ := hA; have q0e : r (.tmp 5) = .int .i64 ((j : Int) + 1) := q0; exact ⟨rfl, by simp [go_sem, q0e]⟩) ?_
            refine tab_val (.int .i64 (j : Int)) (fun r w1 hr hg hA => by obtain ⟨⟨_, q0⟩, -⟩ := hA; have q0e : r (.tmp 13) = .int .i64 ((j : Int) + 1) := q0; exact ⟨rfl, by simp [go_sem, hr.const, q0e, i64w, hwr]⟩) ?_
            refine tab_val (.pointer (some ⟨ba, oa + j * 2, none⟩)) (fun r w1 hr hg hA => by obtain ⟨⟨_, q0⟩, ⟨_, q1⟩, -⟩ := hA; have q0e : r (.tmp 12) = .slice (some ⟨ba, oa, none⟩) n c := q0; have q1e : r (.tmp 14) = .int .i64 (j : Int) := q1; exact ⟨rfl, by simp [go_sem, q0e, q1e, hjn]⟩) ?_
            refine tab_val (.agg #[.int .i64 px, .int .i64 py]) (fun r w1 hr hg hA => by obtain ⟨⟨_, q0⟩, -⟩ := hA; have q0e : r (.tmp 15) = .pointer (some ⟨ba, oa + j * 2, none⟩) := q0; have hc := CF.out w1 (hg1.trans hg); exact ⟨rfl, by simp [go_sem, q0e, hc]⟩) ?_
            refine tab_val (.slice (some ⟨ba, oa, none⟩) n c) (fun r w1 hr hg hA => by obtain ⟨q0, -⟩ := hA; have q0e : r (.tmp 0) = .slice (some ⟨ba, oa, none⟩) n c := q0; exact ⟨rfl, by simp [go_sem, q0e]⟩) ?_
            refine tab_val (.int .i64 ((j : Int) + 1)) (fun r w1 hr hg hA => by obtain ⟨q0, -⟩ := hA; have q0e : r (.tmp 5) = .int .i64 ((j : Int) + 1) := q0; exact ⟨rfl, by simp [go_sem, q0e]⟩) ?_
            refine tab_val (.pointer (some ⟨ba, oa + (j + 1) * 2, none⟩)) (fun r w1 hr hg hA => by obtain ⟨⟨_, q0⟩, ⟨_, q1⟩, -⟩ := hA; have q0e : r (.tmp 17) = .slice (some ⟨ba, oa, none⟩) n c := q0; have q1e : r (.tmp 18) = .int .i64 ((j : Int) + 1) := q1; exact ⟨rfl, by simp [go_sem, q0e, q1e, hs1, hs2]⟩) ?_
            refine tab_val (.agg #[.int .i64 px, .int .i64 qy]) (fun r w1 hr hg hA => by obtain ⟨⟨_, q0⟩, -⟩ := hA; have q0e : r (.tmp 19) = .pointer (some ⟨ba, oa + (j + 1) * 2, none⟩) := q0; have hc := CF.out w1 (hg1.trans hg); exact ⟨rfl, by simp [go_sem, q0e, hc]⟩) ?_
            refine tab_val (.bool true) (fun r w1 hr hg hA => by obtain ⟨⟨_, q0⟩, ⟨_, q1⟩, -⟩ := hA; have q0e : r (.tmp 16) = .agg #[.int .i64 px, .int .i64 py] := q0; have q1e : r (.tmp 20) = .agg #[.int .i64 px, .int .i64 qy] := q1; exact ⟨rfl, by simp [go_sem, q0e, q1e, e]⟩) ?_
            refine tab_val (.bool true) (fun r w1 hr hg hA => by obtain ⟨⟨_, q0⟩, -⟩ := hA; have q0e : r (.tmp 21) = .bool true := q0; exact ⟨rfl, by simp [go_sem, q0e]⟩) ?_
            refine tab_val (.slice (some ⟨ba, oa, none⟩) n c) (fun r w1 hr hg hA => by obtain ⟨q0, ⟨_, q1⟩, -⟩ := hA; have q0e : r (.tmp 0) = .slice (some ⟨ba, oa, none⟩) n c := q0; have q1e : r (.tmp 22) = .bool true := q1; exact ⟨⟨_, q1e, rfl⟩, by simp [go_sem, q0e]⟩) ?_
            refine tab_val (.int .i64 ((j : Int) + 1)) (fun r w1 hr hg hA => by obtain ⟨q0, ⟨_, q1⟩, -⟩ := hA; have q0e : r (.tmp 5) = .int .i64 ((j : Int) + 1) := q0; have q1e : r (.tmp 22) = .bool true := q1; exact ⟨⟨_, q1e, rfl⟩, by simp [go_sem, q0e]⟩) ?_
            refine tab_val (.int .i64 (j : Int)) (fun r w1 hr hg hA => by obtain ⟨⟨_, q0⟩, ⟨_, q1⟩, -⟩ := hA; have q0e : r (.tmp 24) = .int .i64 ((j : Int) + 1) := q0; have q1e : r (.tmp 22) = .bool true := q1; exact ⟨⟨_, q1e, rfl⟩, by simp [go_sem, hr.const, q0e, i64w, hwr]⟩) ?_
            refine tab_val (.pointer (some ⟨ba, oa + j * 2, none⟩)) (fun r w1 hr hg hA => by obtain ⟨⟨_, q0⟩, ⟨_, q1⟩, ⟨_, q2⟩, -⟩ := hA; have q0e : r (.tmp 23) = .slice (some ⟨ba, oa, none⟩) n c := q0; have q1e : r (.tmp 25) = .int .i64 (j : Int) := q1; have q2e : r (.tmp 22) = .bool true := q2; exact ⟨⟨_, q2e, rfl⟩, by simp [go_sem, q0e, q1e, hjn]⟩) ?_
            refine tab_val (.agg #[.int .i64 px, .int .i64 py]) (fun r w1 hr hg hA => by obtain ⟨⟨_, q0⟩, ⟨_, q1⟩, -⟩ := hA; have q0e : r (.tmp 26) = .pointer (some ⟨ba, oa + j * 2, none⟩) := q0; have q1e : r (.tmp 22) = .bool true := q1; have hc := CF.out w1 (hg1.trans hg); exact ⟨⟨_, q1e, rfl⟩, by simp [go_sem, q0e, hc]⟩) ?_
            refine tab_call (v := .bool true) (fun w1 hg => H1.out w1) (fun r w1 hr hg hA => by obtain ⟨⟨_, q0⟩, ⟨_, q1⟩, -⟩ := hA; have q0e : r (.tmp 27) = .agg #[.int .i64 px, .int .i64 py] := q0; have q1e : r (.tmp 22) = .bool true := q1; exact ⟨⟨_, q1e, rfl⟩, by simp [go_sem, hr.func, q0e]⟩) ?_
            refine tab_val (.bool true) (fun r w1 hr hg hA => by obtain ⟨⟨_, q0⟩, ⟨_, q1⟩, -⟩ := hA; have q0e : r (.tmp 22) = .bool true := q0; have q1e : r (.tmp 28) = .bool true := q1; exact ⟨rfl, by simp [go_sem, q0e, q1e]⟩) ?_
            refine tab_val (.bool true) (fun r w1 hr hg hA => by obtain ⟨⟨_, q0⟩, -⟩ := hA; have q0e : r (.tmp 29) = .bool true := q0; exact ⟨rfl, by simp [go_sem, q0e]⟩) ?_
            refine tab_val (.slice (some ⟨ba, oa, none⟩) n c) (fun r w1 hr hg hA => by obtain ⟨q0, ⟨_, q1⟩, -⟩ := hA; have q0e : r (.tmp 0) = .slice (some ⟨ba, oa, none⟩) n c := q0; have q1e : r (.tmp 30) = .bool true := q1; exact ⟨⟨_, q1e, rfl⟩, by simp [go_sem, q0e]⟩) ?_
            refine tab_val (.int .i64 ((j : Int) + 1)) (fun r w1 hr hg hA => by obtain ⟨q0, ⟨_, q1⟩, -⟩ := hA; have q0e : r (.tmp 5) = .int .i64 ((j : Int) + 1) := q0; have q1e : r (.tmp 30) = .bool true := q1; exact ⟨⟨_, q1e, rfl⟩, by simp [go_sem, q0e]⟩) ?_
            refine tab_val (.pointer (some ⟨ba, oa + (j + 1) * 2, none⟩)) (fun r w1 hr hg hA => by obtain ⟨⟨_, q0⟩, ⟨_, q1⟩, ⟨_, q2⟩, -⟩ := hA; have q0e : r (.tmp 31) = .slice (some ⟨ba, oa, none⟩) n c := q0; have q1e : r (.tmp 32) = .int .i64 ((j : Int) + 1) := q1; have q2e : r (.tmp 30) = .bool true := q2; exact ⟨⟨_, q2e, rfl⟩, by simp [go_sem, q0e, q1e, hs1, hs2]⟩) ?_
            refine tab_val (.agg #[.int .i64 px, .int .i64 qy]) (fun r w1 hr hg hA => by obtain ⟨⟨_, q0⟩, ⟨_, q1⟩, -⟩ := hA; have q0e : r (.tmp 33) = .pointer (some ⟨ba, oa + (j + 1) * 2, none⟩) := q0; have q1e : r (.tmp 30) = .bool true := q1; have hc := CF.out w1 (hg1.trans hg); exact ⟨⟨_, q1e, rfl⟩, by simp [go_sem, q0e, hc]⟩) ?_
            refine tab_call (v := .bool false) (fun w1 hg => H2.out w1) (fun r w1 hr hg hA => by obtain ⟨⟨_, q0⟩, ⟨_, q1⟩, -⟩ := hA; have q0e : r (.tmp 34) = .agg #[.int .i64 px, .int .i64 qy] := q0; have q1e : r (.tmp 30) = .bool true := q1; exact ⟨⟨_, q1e, rfl⟩, by simp [go_sem, hr.func, q0e]⟩) ?_
            refine tab_val (.bool false) (fun r w1 hr hg hA => by obtain ⟨⟨_, q0⟩, ⟨_, q1⟩, -⟩ := hA; have q0e : r (.tmp 30) = .bool true := q0; have q1e : r (.tmp 35) = .bool false := q1; exact ⟨rfl, by simp [go_sem, q0e, q1e]⟩) ?_
            refine tab_val (.bool false) (fun r w1 hr hg hA => by obtain ⟨⟨_, q0⟩, -⟩ := hA; have q0e : r (.tmp 36) = .bool false := q0; exact ⟨rfl, by simp [go_sem, q0e]⟩) ?_
            refine tab_skip (fun r w1 hr hg hA => by obtain ⟨q0, ⟨_, q1⟩, -⟩ := hA; have q0e : r (.tmp 3) = .pointer (some ⟨w.heap.size, 0, none⟩) := q0; have q1e : r (.tmp 37) = .bool false := q1; exact ⟨_, q1e, rfl⟩) ?_
            refine tab_skip (fun r w1 hr hg hA => by obtain ⟨⟨_, q0⟩, ⟨_, q1⟩, -⟩ := hA; have q0e : r (.tmp 38) = undef := q0; have q1e : r (.tmp 37) = .bool false := q1; exact ⟨_, q1e, rfl⟩) ?_
            refine tab_val (.bool false) (fun r w1 hr hg hA => by obtain ⟨⟨_, q0⟩, ⟨_, q1⟩, -⟩ := hA; have q0e : r (.tmp 37) = .bool false := q0; have q1e : r (.tmp 39) = undef := q1; exact ⟨rfl, by simp [go_sem, hr.const, q0e]⟩) ?_
            refine tab_val (.bool false) (fun r w1 hr hg hA => by obtain ⟨⟨_, q0⟩, -⟩ := hA; have q0e : r (.tmp 40) = .bool false := q0; exact ⟨rfl, by simp [go_sem, q0e]⟩) ?_
            refine tab_skip (fun r w1 hr hg hA => by obtain ⟨q0, ⟨_, q1⟩, -⟩ := hA; have q0e : r (.tmp 0) = .slice (some ⟨ba, oa, none⟩) n c := q0; have q1e : r (.tmp 41) = .bool false := q1; exact ⟨_, q1e, rfl⟩) ?_
            refine tab_skip (fun r w1 hr hg hA => by obtain ⟨q0, ⟨_, q1⟩, -⟩ := hA; have q0e : r (.tmp 5) = .int .i64 ((j : Int) + 1) := q0; have q1e : r (.tmp 41) = .bool false := q1; exact ⟨_, q1e, rfl⟩) ?_
            refine tab_skip (fun r w1 hr hg hA => by obtain ⟨⟨_, q0⟩, ⟨_, q1⟩, -⟩ := hA; have q0e : r (.tmp 43) = undef := q0; have q1e : r (.tmp 41) = .bool false := q1; exact ⟨_, q1e, rfl⟩) ?_
            refine tab_skip (fun r w1 hr hg hA => by obtain ⟨⟨_, q0⟩, ⟨_, q1⟩, ⟨_, q2⟩, -⟩ := hA; have q0e : r (.tmp 42) = undef := q0; have q1e : r (.tmp 44) = undef := q1; have q2e : r (.tmp 41) = .bool false := q2; exact ⟨_, q2e, rfl⟩) ?_
            refine tab_skip (fun r w1 hr hg hA => by obtain ⟨⟨_, q0⟩, ⟨_, q1⟩, -⟩ := hA; have q0e : r (.tmp 45) = undef := q0; have q1e : r (.tmp 41) = .bool false := q1; exact ⟨_, q1e, rfl⟩) ?_
            refine tab_skip (fun r w1 hr hg hA => by obtain ⟨q0, ⟨_, q1⟩, -⟩ := hA; have q0e : r (.tmp 0) = .slice (some ⟨ba, oa, none⟩) n c := q0; have q1e : r (.tmp 41) = .bool false := q1; exact ⟨_, q1e, rfl⟩) ?_
            refine tab_skip (fun r w1 hr hg hA => by obtain ⟨q0, ⟨_, q1⟩, -⟩ := hA; have q0e : r (.tmp 5) = .int .i64 ((j : Int) + 1) := q0; have q1e : r (.tmp 41) = .bool false := q1; exact ⟨_, q1e, rfl⟩) ?_
            refine tab_skip (fun r w1 hr hg hA => by obtain ⟨⟨_, q0⟩, ⟨_, q1⟩, ⟨_, q2⟩, -⟩ := hA; have q0e : r (.tmp 47) = undef := q0; have q1e : r (.tmp 48) = undef := q1; have q2e : r (.tmp 41) = .bool false := q2; exact ⟨_, q2e, rfl⟩) ?_
            refine tab_skip (fun r w1 hr hg hA => by obtain ⟨⟨_, q0⟩, ⟨_, q1⟩, -⟩ := hA; have q0e : r (.tmp 49) = undef := q0; have q1e : r (.tmp 41) = .bool false := q1; exact ⟨_, q1e, rfl⟩) ?_
            refine tab_skip (fun r w1 hr hg hA => by obtain ⟨q0, ⟨_, q1⟩, -⟩ := hA; have q0e : r (.tmp 3) = .pointer (some ⟨w.heap.size, 0, none⟩) := q0; have q1e : r (.tmp 41) = .bool false := q1; exact ⟨_, q1e, rfl⟩) ?_
            refine tab_skip (fun r w1 hr hg hA => by obtain ⟨⟨_, q0⟩, ⟨_, q1⟩, ⟨_, q2⟩, ⟨_, q3⟩, -⟩ := hA; have q0e : r (.tmp 46) = undef := q0; have q1e : r (.tmp 50) = undef := q1; have q2e : r (.tmp 51) = undef := q2; have q3e : r (.tmp 41) = .bool false := q3; exact ⟨_, q3e, rfl⟩) ?_
            refine tab_end ?_
            simp only [List.reverse_cons, List.reverse_nil, List.nil_append, List.cons_append, Out, BlockP, forall_eq, forall_const, Act.put, List.setIfInBounds_toArray, List.set_cons_succ, List.set_cons_zero]
            intro wA hgA
            have GA := Lib.hid (hg1.trans hgA)
            clear hg1 hgA hg1' hw0 hwr hs1 hs2
            go_wp2
            exact ⟨⟨j + 1, by simp, Lib.hid (fun i hi => (Nat.lt_succ_iff_lt_or_eq.1 hi).elim (fun h => HB.out i h) (fun h => by rw [h]; exact HE.out)), Lib.hid (G.out.trans GA.out)⟩, by simp only [intOf]; omega⟩
          | true =>
            cases m3 with
            | false =>
              have HE := Lib.hid (HED.out.trans (by simp) : redge ⟨lx, ly, hx, hy⟩ (gp l j) (gp l (j + 1)) = false)
              go_wp2_with fail
              refine wp_region_tab 41 (by kernel_rfl) (by kernel_rfl) ?_
              intro w0 hw0 hg1 hg1'
              simp only [List.take_succ_cons, List.take_zero, List.drop_succ_cons, List.drop_zero]
              refine tab_val (.slice (some ⟨ba, oa, none⟩) n c) (fun r w1 hr hg hA => by obtain ⟨q0, -⟩ := hA; have q0e : r (.tmp 0) = .slice (some ⟨ba, oa, none⟩) n c := q0; exact ⟨rfl, by simp [go_sem, q0e]⟩) ?_
              refine tab_val (.int .i64 ((j : Int) + 1)) (fun r w1 hr hg hA => by obtain ⟨q0, -⟩ := hA; have q0e : r (.tmp 5) = .int .i64 ((j : Int) + 1) := q0; exact ⟨rfl, by simp [go_sem, q0e]⟩) ?_
              refine tab_val (.int .i64 (j : Int)) (fun r w1 hr hg hA => by obtain ⟨⟨_, q0⟩, -⟩ := hA; have q0e : r (.tmp 13) = .int .i64 ((j : Int) + 1) := q0; exact ⟨rfl, by simp [go_sem, hr.const, q0e, i64w, hwr]⟩) ?_
              refine tab_val (.pointer (some ⟨ba, oa + j * 2, none⟩)) (fun r w1 hr hg hA => by obtain ⟨⟨_, q0⟩, ⟨_, q1⟩, -⟩ := hA; have q0e : r (.tmp 12) = .slice (some ⟨ba, oa, none⟩) n c := q0; have q1e : r (.tmp 14) = .int .i64 (j : Int) := q1; exact ⟨rfl, by simp [go_sem, q0e, q1e, hjn]⟩) ?_
              refine tab_val (.agg #[.int .i64 px, .int .i64 py]) (fun r w1 hr hg hA => by obtain ⟨⟨_, q0⟩, -⟩ := hA; have q0e : r (.tmp 15) = .pointer (some ⟨ba, oa + j * 2, none⟩) := q0; have hc := CF.out w1 (hg1.trans hg); exact ⟨rfl, by simp [go_sem, q0e, hc]⟩) ?_
              refine tab_val (.slice (some ⟨ba, oa, none⟩) n c) (fun r w1 hr hg hA => by obtain ⟨q0, -⟩ := hA; have q0e : r (.tmp 0) = .slice (some ⟨ba, oa, none⟩) n c := q0; exact ⟨rfl, by simp [go_sem, q0e]⟩) ?_
              refine tab_val (.int .i64 ((j : Int) + 1)) (fun r w1 hr hg hA => by obtain ⟨q0, -⟩ := hA; have q0e : r (.tmp 5) = .int .i64 ((j : Int) + 1) := q0; exact ⟨rfl, by simp [go_sem, q0e]⟩) ?_
              refine tab_val (.pointer (some ⟨ba, oa + (j + 1) * 2, none⟩)) (fun r w1 hr hg hA => by obtain ⟨⟨_, q0⟩, ⟨_, q1⟩, -⟩ := hA; have q0e : r (.tmp 17) = .slice (some ⟨ba, oa, none⟩) n c := q0; have q1e : r (.tmp 18) = .int .i64 ((j : Int) + 1) := q1; exact ⟨rfl, by simp [go_sem, q0e, q1e, hs1, hs2]⟩) ?_
              refine tab_val (.agg #[.int .i64 px, .int .i64 qy]) (fun r w1 hr hg hA => by obtain ⟨⟨_, q0⟩, -⟩ := hA; have q0e : r (.tmp 19) = .pointer (some ⟨ba, oa + (j + 1) * 2, none⟩) := q0; have hc := CF.out w1 (hg1.trans hg); exact ⟨rfl, by simp [go_sem, q0e, hc]⟩) ?_
              refine tab_val (.bool true) (fun r w1 hr hg hA => by obtain ⟨⟨_, q0⟩, ⟨_, q1⟩, -⟩ := hA; have q0e : r (.tmp 16) = .agg #[.int .i64 px, .int .i64 py] := q0; have q1e : r (.tmp 20) = .agg #[.int .i64 px, .int .i64 qy] := q1; exact ⟨rfl, by simp [go_sem, q0e, q1e, e]⟩) ?_
              refine tab_val (.bool true) (fun r w1 hr hg hA => by obtain ⟨⟨_, q0⟩, -⟩ := hA; have q0e : r (.tmp 21) = .bool true := q0; exact ⟨rfl, by simp [go_sem, q0e]⟩) ?_
              refine tab_val (.slice (some ⟨ba, oa, none⟩) n c) (fun r w1 hr hg hA => by obtain ⟨q0, ⟨_, q1⟩, -⟩ := hA; have q0e : r (.tmp 0) = .slice (some ⟨ba, oa, none⟩) n c := q0; have q1e : r (.tmp 22) = .bool true := q1; exact ⟨⟨_, q1e, rfl⟩, by simp [go_sem, q0e]⟩) ?_
              refine tab_val (.int .i64 ((j : Int) + 1)) (fun r w1 hr hg hA => by obtain ⟨q0, ⟨_, q1⟩, -⟩ := hA; have q0e : r (.tmp 5) = .int .i64 ((j : Int) + 1) := q0; have q1e : r (.tmp 22) = .bool true := q1; exact ⟨⟨_, q1e, rfl⟩, by simp [go_sem, q0e]⟩) ?_
              refine tab_val (.int .i64 (j : Int)) (fun r w1 hr hg hA => by obtain ⟨⟨_, q0⟩, ⟨_, q1⟩, -⟩ := hA; have q0e : r (.tmp 24) = .int .i64 ((j : Int) + 1) := q0; have q1e : r (.tmp 22) = .bool true := q1; exact ⟨⟨_, q1e, rfl⟩, by simp [go_sem, hr.const, q0e, i64w, hwr]⟩) ?_
              refine tab_val (.pointer (some ⟨ba, oa + j * 2, none⟩)) (fun r w1 hr hg hA => by obtain ⟨⟨_, q0⟩, ⟨_, q1⟩, ⟨_, q2⟩, -⟩ := hA; have q0e : r (.tmp 23) = .slice (some ⟨ba, oa, none⟩) n c := q0; have q1e : r (.tmp 25) = .int .i64 (j : Int) := q1; have q2e : r (.tmp 22) = .bool true := q2; exact ⟨⟨_, q2e, rfl⟩, by simp [go_sem, q0e, q1e, hjn]⟩) ?_
              refine tab_val (.agg #[.int .i64 px, .int .i64 py]) (fun r w1 hr hg hA => by obtain ⟨⟨_, q0⟩, ⟨_, q1⟩, -⟩ := hA; have q0e : r (.tmp 26) = .pointer (some ⟨ba, oa + j * 2, none⟩) := q0; have q1e : r (.tmp 22) = .bool true := q1; have hc := CF.out w1 (hg1.trans hg); exact ⟨⟨_, q1e, rfl⟩, by simp [go_sem, q0e, hc]⟩) ?_
              refine tab_call (v := .bool true) (fun w1 hg => H1.out w1) (fun r w1 hr hg hA => by obtain ⟨⟨_, q0⟩, ⟨_, q1⟩, -⟩ := hA; have q0e : r (.tmp 27) = .agg #[.int .i64 px, .int .i64 py] := q0; have q1e : r (.tmp 22) = .bool true := q1; exact ⟨⟨_, q1e, rfl⟩, by simp [go_sem, hr.func, q0e]⟩) ?_
              refine tab_val (.bool true) (fun r w1 hr hg hA => by obtain ⟨⟨_, q0⟩, ⟨_, q1⟩, -⟩ := hA; have q0e : r (.tmp 22) = .bool true := q0; have q1e : r (.tmp 28) = .bool true := q1; exact ⟨rfl, by simp [go_sem, q0e, q1e]⟩) ?_
              refine tab_val (.bool true) (fun r w1 hr hg hA => by obtain ⟨⟨_, q0⟩, -⟩ := hA; have q0e : r (.tmp 29) = .bool true := q0; exact ⟨rfl, by simp [go_sem, q0e]⟩) ?_
              refine tab_val (.slice (some ⟨ba, oa, none⟩) n c) (fun r w1 hr hg hA => by obtain ⟨q0, ⟨_, q1⟩, -⟩ := hA; have q0e : r (.tmp 0) = .slice (some ⟨ba, oa, none⟩) n c := q0; have q1e : r (.tmp 30) = .bool true := q1; exact ⟨⟨_, q1e, rfl⟩, by simp [go_sem, q0e]⟩) ?_
              refine tab_val (.int .i64 ((j : Int) + 1)) (fun r w1 hr hg hA => by obtain ⟨q0, ⟨_, q1⟩, -⟩ := hA; have q0e : r (.tmp 5) = .int .i64 ((j : Int) + 1) := q0; have q1e : r (.tmp 30) = .bool true := q1; exact ⟨⟨_, q1e, rfl⟩, by simp [go_sem, q0e]⟩) ?_
              refine tab_val (.pointer (some ⟨ba, oa + (j + 1) * 2, none⟩)) (fun r w1 hr hg hA => by obtain ⟨⟨_, q0⟩, ⟨_, q1⟩, ⟨_, q2⟩, -⟩ := hA; have q0e : r (.tmp 31) = .slice (some ⟨ba, oa, none⟩) n c := q0; have q1e : r (.tmp 32) = .int .i64 ((j : Int) + 1) := q1; have q2e : r (.tmp 30) = .bool true := q2; exact ⟨⟨_, q2e, rfl⟩, by simp [go_sem, q0e, q1e, hs1, hs2]⟩) ?_
              refine tab_val (.agg #[.int .i64 px, .int .i64 qy]) (fun r w1 hr hg hA => by obtain ⟨⟨_, q0⟩, ⟨_, q1⟩, -⟩ := hA; have q0e : r (.tmp 33) = .pointer (some ⟨ba, oa + (j + 1) * 2, none⟩) := q0; have q1e : r (.tmp 30) = .bool true := q1; have hc := CF.out w1 (hg1.trans hg); exact ⟨⟨_, q1e, rfl⟩, by simp [go_sem, q0e, hc]⟩) ?_
              refine tab_call (v := .bool true) (fun w1 hg => H2.out w1) (fun r w1 hr hg hA => by obtain ⟨⟨_, q0⟩, ⟨_, q1⟩, -⟩ := hA; have q0e : r (.tmp 34) = .agg #[.int .i64 px, .int .i64 qy] := q0; have q1e : r (.tmp 30) = .bool true := q1; exact ⟨⟨_, q1e, rfl⟩, by simp [go_sem, hr.func, q0e]⟩) ?_
              refine tab_val (.bool true) (fun r w1 hr hg hA => by obtain ⟨⟨_, q0⟩, ⟨_, q1⟩, -⟩ := hA; have q0e : r (.tmp 30) = .bool true := q0; have q1e : r (.tmp 35) = .bool true := q1; exact ⟨rfl, by simp [go_sem, q0e, q1e]⟩) ?_
              refine tab_val (.bool true) (fun r w1 hr hg hA => by obtain ⟨⟨_, q0⟩, -⟩ := hA; have q0e : r (.tmp 36) = .bool true := q0; exact ⟨rfl, by simp [go_sem, q0e]⟩) ?_
              refine tab_val (.agg #[.int .i64 lx, .int .i64 ly, .int .i64 hx, .int .i64 hy]) (fun r w1 hr hg hA => by obtain ⟨q0, ⟨_, q1⟩, -⟩ := hA; have q0e : r (.tmp 3) = .pointer (some ⟨w.heap.size, 0, none⟩) := q0; have q1e : r (.tmp 37) = .bool true := q1; have hc := CF.out w1 (hg1.trans hg); exact ⟨⟨_, q1e, rfl⟩, by simp [go_sem, q0e, hc]⟩) ?_
              refine tab_call (v := .bool false) (fun w1 hg => H3.out w1) (fun r w1 hr hg hA => by obtain ⟨⟨_, q0⟩, ⟨_, q1⟩, -⟩ := hA; have q0e : r (.tmp 38) = .agg #[.int .i64 lx, .int .i64 ly, .int .i64 hx, .int .i64 hy] := q0; have q1e : r (.tmp 37) = .bool true := q1; exact ⟨⟨_, q1e, rfl⟩, by simp [go_sem, hr.func, q0e]⟩) ?_
              refine tab_val (.bool false) (fun r w1 hr hg hA => by obtain ⟨⟨_, q0⟩, ⟨_, q1⟩, -⟩ := hA; have q0e : r (.tmp 37) = .bool true := q0; have q1e : r (.tmp 39) = .bool false := q1; exact ⟨rfl, by simp [go_sem, q0e, q1e]⟩) ?_
              refine tab_val (.bool false) (fun r w1 hr hg hA => by obtain ⟨⟨_, q0⟩, -⟩ := hA; have q0e : r (.tmp 40) = .bool false := q0; exact ⟨rfl, by simp [go_sem, q0e]⟩) ?_
              refine tab_skip (fun r w1 hr hg hA => by obtain ⟨q0, ⟨_, q1⟩, -⟩ := hA; have q0e : r (.tmp 0) = .slice (some ⟨ba, oa, none⟩) n c := q0; have q1e : r (.tmp 41) = .bool false := q1; exact ⟨_, q1e, rfl⟩) ?_
              refine tab_skip (fun r w1 hr hg hA => by obtain ⟨q0, ⟨_, q1⟩, -⟩ := hA; have q0e : r (.tmp 5) = .int .i64 ((j : Int) + 1) := q0; have q1e : r (.tmp 41) = .bool false := q1; exact ⟨_, q1e, rfl⟩) ?_
              refine tab_skip (fun r w1 hr hg hA => by obtain ⟨⟨_, q0⟩, ⟨_, q1⟩, -⟩ := hA; have q0e : r (.tmp 43) = undef := q0; have q1e : r (.tmp 41) = .bool false := q1; exact ⟨_, q1e, rfl⟩) ?_
              refine tab_skip (fun r w1 hr hg hA => by obtain ⟨⟨_, q0⟩, ⟨_, q1⟩, ⟨_, q2⟩, -⟩ := hA; have q0e : r (.tmp 42) = undef := q0; have q1e : r (.tmp 44) = undef := q1; have q2e : r (.tmp 41) = .bool false := q2; exact ⟨_, q2e, rfl⟩) ?_
              refine tab_skip (fun r w1 hr hg hA => by obtain ⟨⟨_, q0⟩, ⟨_, q1⟩, -⟩ := hA; have q0e : r (.tmp 45) = undef := q0; have q1e : r (.tmp 41) = .bool false := q1; exact ⟨_, q1e, rfl⟩) ?_
              refine tab_skip (fun r w1 hr hg hA => by obtain ⟨q0, ⟨_, q1⟩, -⟩ := hA; have q0e : r (.tmp 0) = .slice (some ⟨ba, oa, none⟩) n c := q0; have q1e : r (.tmp 41) = .bool false := q1; exact ⟨_, q1e, rfl⟩) ?_
              refine tab_skip (fun r w1 hr hg hA => by obtain ⟨q0, ⟨_, q1⟩, -⟩ := hA; have q0e : r (.tmp 5) = .int .i64 ((j : Int) + 1) := q0; have q1e : r (.tmp 41) = .bool false := q1; exact ⟨_, q1e, rfl⟩) ?_
              refine tab_skip (fun r w1 hr hg hA => by obtain ⟨⟨_, q0⟩, ⟨_, q1⟩, ⟨_, q2⟩, -⟩ := hA; have q0e : r (.tmp 47) = undef := q0; have q1e : r (.tmp 48) = undef := q1; have q2e : r (.tmp 41) = .bool false := q2; exact ⟨_, q2e, rfl⟩) ?_
              refine tab_skip (fun r w1 hr hg hA => by obtain ⟨⟨_, q0⟩, ⟨_, q1⟩, -⟩ := hA; have q0e : r (.tmp 49) = undef := q0; have q1e : r (.tmp 41) = .bool false := q1; exact ⟨_, q1e, rfl⟩) ?_
              refine tab_skip (fun r w1 hr hg hA => by obtain ⟨q0, ⟨_, q1⟩, -⟩ := hA; have q0e : r (.tmp 3) = .pointer (some ⟨w.heap.size, 0, none⟩) := q0; have q1e : r (.tmp 41) = .bool false := q1; exact ⟨_, q1e, rfl⟩) ?_
              refine tab_skip (fun r w1 hr hg hA => by obtain ⟨⟨_, q0⟩, ⟨_, q1⟩, ⟨_, q2⟩, ⟨_, q3⟩, -⟩ := hA; have q0e : r (.tmp 46) = undef := q0; have q1e : r (.tmp 50) = undef := q1; have q2e : r (.tmp 51) = undef := q2; have q3e : r (.tmp 41) = .bool false := q3; exact ⟨_, q3e, rfl⟩) ?_
              refine tab_end ?_
              simp only [List.reverse_cons, List.reverse_nil, List.nil_append, List.cons_append, Out, BlockP, forall_eq, forall_const, Act.put, List.setIfInBounds_toArray, List.set_cons_succ, List.set_cons_zero]
              intro wA hgA
              have GA := Lib.hid (hg1.trans hgA)
              clear hg1 hgA hg1' hw0 hwr hs1 hs2
              go_wp2
              exact ⟨⟨j + 1, by simp, Lib.hid (fun i hi => (Nat.lt_succ_iff_lt_or_eq.1 hi).elim (fun h => HB.out i h) (fun h => by rw [h]; exact HE.out)), Lib.hid (G.out.trans GA.out)⟩, by simp only [intOf]; omega⟩
            | true =>
              have H4 := Lib.hid (HIN4.out rfl rfl rfl)
              cases m4 with
              | false =>
                have HE := Lib.hid (HED.out.trans (by simp) : redge ⟨lx, ly, hx, hy⟩ (gp l j) (gp l (j + 1)) = false)
                go_wp2_with fail
                refine wp_region_tab 41 (by kernel_rfl) (by kernel_rfl) ?_
                intro w0 hw0 hg1 hg1'
                simp only [List.take_succ_cons, List.take_zero, List.drop_succ_cons, List.drop_zero]
                refine tab_val (.slice (some ⟨ba, oa, none⟩) n c) (fun r w1 hr hg hA => by obtain ⟨q0, -⟩ := hA; have q0e : r (.tmp 0) = .slice (some ⟨ba, oa, none⟩) n c := q0; exact ⟨rfl, by simp [go_sem, q0e]⟩) ?_
                refine tab_val (.int .i64 ((j : Int) + 1)) (fun r w1 hr hg hA => by obtain ⟨q0, -⟩ := hA; have q0e : r (.tmp 5) = .int .i64 ((j : Int) + 1) := q0; exact ⟨rfl, by simp [go_sem, q0e]⟩) ?_
                refine tab_val (.int .i64 (j : Int)) (fun r w1 hr hg hA => by obtain ⟨⟨_, q0⟩, -⟩ := hA; have q0e : r (.tmp 13) = .int .i64 ((j : Int) + 1) := q0; exact ⟨rfl, by simp [go_sem, hr.const, q0e, i64w, hwr]⟩) ?_
                refine tab_val (.pointer (some ⟨ba, oa + j * 2, none⟩)) (fun r w1 hr hg hA => by obtain ⟨⟨_, q0⟩, ⟨_, q1⟩, -⟩ := hA; have q0e : r (.tmp 12) = .slice (some ⟨ba, oa, none⟩) n c := q0; have q1e : r (.tmp 14) = .int .i64 (j : Int) := q1; exact ⟨rfl, by simp [go_sem, q0e, q1e, hjn]⟩) ?_
                refine tab_val (.agg #[.int .i64 px, .int .i64 py]) (fun r w1 hr hg hA => by obtain ⟨⟨_, q0⟩, -⟩ := hA; have q0e : r (.tmp 15) = .pointer (some ⟨ba, oa + j * 2, none⟩) := q0; have hc := CF.out w1 (hg1.trans hg); exact ⟨rfl, by simp [go_sem, q0e, hc]⟩) ?_
                refine tab_val (.slice (some ⟨ba, oa, none⟩) n c) (fun r w1 hr hg hA => by obtain ⟨q0, -⟩ := hA; have q0e : r (.tmp 0) = .slice (some ⟨ba, oa, none⟩) n c := q0; exact ⟨rfl, by simp [go_sem, q0e]⟩) ?_
                refine tab_val (.int .i64 ((j : Int) + 1)) (fun r w1 hr hg hA => by obtain ⟨q0, -⟩ := hA; have q0e : r (.tmp 5) = .int .i64 ((j : Int) + 1) := q0; exact ⟨rfl, by simp [go_sem, q0e]⟩) ?_
                refine tab_val (.pointer (some ⟨ba, oa + (j + 1) * 2, none⟩)) (fun r w1 hr hg hA => by obtain ⟨⟨_, q0⟩, ⟨_, q1⟩, -⟩ := hA; have q0e : r (.tmp 17) = .slice (some ⟨ba, oa, none⟩) n c := q0; have q1e : r (.tmp 18) = .int .i64 ((j : Int) + 1) := q1; exact ⟨rfl, by simp [go_sem, q0e, q1e, hs1, hs2]⟩) ?_
                refine tab_val (.agg #[.int .i64 px, .int .i64 qy]) (fun r w1 hr hg hA => by obtain ⟨⟨_, q0⟩, -⟩ := hA; have q0e : r (.tmp 19) = .pointer (some ⟨ba, oa + (j + 1) * 2, none⟩) := q0; have hc := CF.out w1 (hg1.trans hg); exact ⟨rfl, by simp [go_sem, q0e, hc]⟩) ?_
                refine tab_val (.bool true) (fun r w1 hr hg hA => by obtain ⟨⟨_, q0⟩, ⟨_, q1⟩, -⟩ := hA; have q0e : r (.tmp 16) = .agg #[.int .i64 px, .int .i64 py] := q0; have q1e : r (.tmp 20) = .agg #[.int .i64 px, .int .i64 qy] := q1; exact ⟨rfl, by simp [go_sem, q0e, q1e, e]⟩) ?_
                refine tab_val (.bool true) (fun r w1 hr hg hA => by obtain ⟨⟨_, q0⟩, -⟩ := hA; have q0e : r (.tmp 21) = .bool true := q0; exact ⟨rfl, by simp [go_sem, q0e]⟩) ?_
                refine tab_val (.slice (some ⟨ba, oa, none⟩) n c) (fun r w1 hr hg hA => by obtain ⟨q0, ⟨_, q1⟩, -⟩ := hA; have q0e : r (.tmp 0) = .slice (some ⟨ba, oa, none⟩) n c := q0; have q1e : r (.tmp 22) = .bool true := q1; exact ⟨⟨_, q1e, rfl⟩, by simp [go_sem, q0e]⟩) ?_
                refine tab_val (.int .i64 ((j : Int) + 1)) (fun r w1 hr hg hA => by obtain ⟨q0, ⟨_, q1⟩, -⟩ := hA; have q0e : r (.tmp 5) = .int .i64 ((j : Int) + 1) := q0; have q1e : r (.tmp 22) = .bool true := q1; exact ⟨⟨_, q1e, rfl⟩, by simp [go_sem, q0e]⟩) ?_
                refine tab_val (.int .i64 (j : Int)) (fun r w1 hr hg hA => by obtain ⟨⟨_, q0⟩, ⟨_, q1⟩, -⟩ := hA; have q0e : r (.tmp 24) = .int .i64 ((j : Int) + 1) := q0; have q1e : r (.tmp 22) = .bool true := q1; exact ⟨⟨_, q1e, rfl⟩, by simp [go_sem, hr.const, q0e, i64w, hwr]⟩) ?_
                refine tab_val (.pointer (some ⟨ba, oa + j * 2, none⟩)) (fun r w1 hr hg hA => by obtain ⟨⟨_, q0⟩, ⟨_, q1⟩, ⟨_, q2⟩, -⟩ := hA; have q0e : r (.tmp 23) = .slice (some ⟨ba, oa, none⟩) n c := q0; have q1e : r (.tmp 25) = .int .i64 (j : Int) := q1; have q2e : r (.tmp 22) = .bool true := q2; exact ⟨⟨_, q2e, rfl⟩, by simp [go_sem, q0e, q1e, hjn]⟩) ?_
                refine tab_val (.agg #[.int .i64 px, .int .i64 py]) (fun r w1 hr hg hA => by obtain ⟨⟨_, q0⟩, ⟨_, q1⟩, -⟩ := hA; have q0e : r (.tmp 26) = .pointer (some ⟨ba, oa + j * 2, none⟩) := q0; have q1e : r (.tmp 22) = .bool true := q1; have hc := CF.out w1 (hg1.trans hg); exact ⟨⟨_, q1e, rfl⟩, by simp [go_sem, q0e, hc]⟩) ?_
                refine tab_call (v := .bool true) (fun w1 hg => H1.out w1) (fun r w1 hr hg hA => by obtain ⟨⟨_, q0⟩, ⟨_, q1⟩, -⟩ := hA; have q0e : r (.tmp 27) = .agg #[.int .i64 px, .int .i64 py] := q0; have q1e : r (.tmp 22) = .bool true := q1; exact ⟨⟨_, q1e, rfl⟩, by simp [go_sem, hr.func, q0e]⟩) ?_
                refine tab_val (.bool true) (fun r w1 hr hg hA => by obtain ⟨⟨_, q0⟩, ⟨_, q1⟩, -⟩ := hA; have q0e : r (.tmp 22) = .bool true := q0; have q1e : r (.tmp 28) = .bool true := q1; exact ⟨rfl, by simp [go_sem, q0e, q1e]⟩) ?_
                refine tab_val (.bool true) (fun r w1 hr hg hA => by obtain ⟨⟨_, q0⟩, -⟩ := hA; have q0e : r (.tmp 29) = .bool true := q0; exact ⟨rfl, by simp [go_sem, q0e]⟩) ?_
                refine tab_val (.slice (some ⟨ba, oa, none⟩) n c) (fun r w1 hr hg hA => by obtain ⟨q0, ⟨_, q1⟩, -⟩ := hA; have q0e : r (.tmp 0) = .slice (some ⟨ba, oa, none⟩) n c := q0; have q1e : r (.tmp 30) = .bool true := q1; exact ⟨⟨_, q1e, rfl⟩, by simp [go_sem, q0e]⟩) ?_
                refine tab_val (.int .i64 ((j : Int) + 1)) (fun r w1 hr hg hA => by obtain ⟨q0, ⟨_, q1⟩, -⟩ := hA; have q0e : r (.tmp 5) = .int .i64 ((j : Int) + 1) := q0; have q1e : r (.tmp 30) = .bool true := q1; exact ⟨⟨_, q1e, rfl⟩, by simp [go_sem, q0e]⟩) ?_
                refine tab_val (.pointer (some ⟨ba, oa + (j + 1) * 2, none⟩)) (fun r w1 hr hg hA => by obtain ⟨⟨_, q0⟩, ⟨_, q1⟩, ⟨_, q2⟩, -⟩ := hA; have q0e : r (.tmp 31) = .slice (some ⟨ba, oa, none⟩) n c := q0; have q1e : r (.tmp 32) = .int .i64 ((j : Int) + 1) := q1; have q2e : r (.tmp 30) = .bool true := q2; exact ⟨⟨_, q2e, rfl⟩, by simp [go_sem, q0e, q1e, hs1, hs2]⟩) ?_
                refine tab_val (.agg #[.int .i64 px, .int .i64 qy]) (fun r w1 hr hg hA => by obtain ⟨⟨_, q0⟩, ⟨_, q1⟩, -⟩ := hA; have q0e : r (.tmp 33) = .pointer (some ⟨ba, oa + (j + 1) * 2, none⟩) := q0; have q1e : r (.tmp 30) = .bool true := q1; have hc := CF.out w1 (hg1.trans hg); exact ⟨⟨_, q1e, rfl⟩, by simp [go_sem, q0e, hc]⟩) ?_
                refine tab_call (v := .bool true) (fun w1 hg => H2.out w1) (fun r w1 hr hg hA => by obtain ⟨⟨_, q0⟩, ⟨_, q1⟩, -⟩ := hA; have q0e : r (.tmp 34) = .agg #[.int .i64 px, .int .i64 qy] := q0; have q1e : r (.tmp 30) = .bool true := q1; exact ⟨⟨_, q1e, rfl⟩, by simp [go_sem, hr.func, q0e]⟩) ?_
                refine tab_val (.bool true) (fun r w1 hr hg hA => by obtain ⟨⟨_, q0⟩, ⟨_, q1⟩, -⟩ := hA; have q0e : r (.tmp 30) = .bool true := q0; have q1e : r (.tmp 35) = .bool true := q1; exact ⟨rfl, by simp [go_sem, q0e, q1e]⟩) ?_
                refine tab_val (.bool true) (fun r w1 hr hg hA => by obtain ⟨⟨_, q0⟩, -⟩ := hA; have q0e : r (.tmp 36) = .bool true := q0; exact ⟨rfl, by simp [go_sem, q0e]⟩) ?_
                refine tab_val (.agg #[.int .i64 lx, .int .i64 ly, .int .i64 hx, .int .i64 hy]) (fun r w1 hr hg hA => by obtain ⟨q0, ⟨_, q1⟩, -⟩ := hA; have q0e : r (.tmp 3) = .pointer (some ⟨w.heap.size, 0, none⟩) := q0; have q1e : r (.tmp 37) = .bool true := q1; have hc := CF.out w1 (hg1.trans hg); exact ⟨⟨_, q1e, rfl⟩, by simp [go_sem, q0e, hc]⟩) ?_
                refine tab_call (v := .bool true) (fun w1 hg => H3.out w1) (fun r w1 hr hg hA => by obtain ⟨⟨_, q0⟩, ⟨_, q1⟩, -⟩ := hA; have q0e : r (.tmp 38) = .agg #[.int .i64 lx, .int .i64 ly, .int .i64 hx, .int .i64 hy] := q0; have q1e : r (.tmp 37) = .bool true := q1; exact ⟨⟨_, q1e, rfl⟩, by simp [go_sem, hr.func, q0e]⟩) ?_
                refine tab_val (.bool true) (fun r w1 hr hg hA => by obtain ⟨⟨_, q0⟩, ⟨_, q1⟩, -⟩ := hA; have q0e : r (.tmp 37) = .bool true := q0; have q1e : r (.tmp 39) = .bool true := q1; exact ⟨rfl, by simp [go_sem, q0e, q1e]⟩) ?_
                refine tab_val (.bool true) (fun r w1 hr hg hA => by obtain ⟨⟨_, q0⟩, -⟩ := hA; have q0e : r (.tmp 40) = .bool true := q0; exact ⟨rfl, by simp [go_sem, q0e]⟩) ?_
                refine tab_val (.slice (some ⟨ba, oa, none⟩) n c) (fun r w1 hr hg hA => by obtain ⟨q0, ⟨_, q1⟩, -⟩ := hA; have q0e : r (.tmp 0) = .slice (some ⟨ba, oa, none⟩) n c := q0; have q1e : r (.tmp 41) = .bool true := q1; exact ⟨⟨_, q1e, rfl⟩, by simp [go_sem, q0e]⟩) ?_
                refine tab_val (.int .i64 ((j : Int) + 1)) (fun r w1 hr hg hA => by obtain ⟨q0, ⟨_, q1⟩, -⟩ := hA; have q0e : r (.tmp 5) = .int .i64 ((j : Int) + 1) := q0; have q1e : r (.tmp 41) = .bool true := q1; exact ⟨⟨_, q1e, rfl⟩, by simp [go_sem, q0e]⟩) ?_
                refine tab_val (.int .i64 (j : Int)) (fun r w1 hr hg hA => by obtain ⟨⟨_, q0⟩, ⟨_, q1⟩, -⟩ := hA; have q0e : r (.tmp 43) = .int .i64 ((j : Int) + 1) := q0; have q1e : r (.tmp 41) = .bool true := q1; exact ⟨⟨_, q1e, rfl⟩, by simp [go_sem, hr.const, q0e, i64w, hwr]⟩) ?_
                refine tab_val (.pointer (some ⟨ba, oa + j * 2, none⟩)) (fun r w1 hr hg hA => by obtain ⟨⟨_, q0⟩, ⟨_, q1⟩, ⟨_, q2⟩, -⟩ := hA; have q0e : r (.tmp 42) = .slice (some ⟨ba, oa, none⟩) n c := q0; have q1e : r (.tmp 44) = .int .i64 (j : Int) := q1; have q2e : r (.tmp 41) = .bool true := q2; exact ⟨⟨_, q2e, rfl⟩, by simp [go_sem, q0e, q1e, hjn]⟩) ?_
                refine tab_val (.agg #[.int .i64 px, .int .i64 py]) (fun r w1 hr hg hA => by obtain ⟨⟨_, q0⟩, ⟨_, q1⟩, -⟩ := hA; have q0e : r (.tmp 45) = .pointer (some ⟨ba, oa + j * 2, none⟩) := q0; have q1e : r (.tmp 41) = .bool true := q1; have hc := CF.out w1 (hg1.trans hg); exact ⟨⟨_, q1e, rfl⟩, by simp [go_sem, q0e, hc]⟩) ?_
                refine tab_val (.slice (some ⟨ba, oa, none⟩) n c) (fun r w1 hr hg hA => by obtain ⟨q0, ⟨_, q1⟩, -⟩ := hA; have q0e : r (.tmp 0) = .slice (some ⟨ba, oa, none⟩) n c := q0; have q1e : r (.tmp 41) = .bool true := q1; exact ⟨⟨_, q1e, rfl⟩, by simp [go_sem, q0e]⟩) ?_
                refine tab_val (.int .i64 ((j : Int) + 1)) (fun r w1 hr hg hA => by obtain ⟨q0, ⟨_, q1⟩, -⟩ := hA; have q0e : r (.tmp 5) = .int .i64 ((j : Int) + 1) := q0; have q1e : r (.tmp 41) = .bool true := q1; exact ⟨⟨_, q1e, rfl⟩, by simp [go_sem, q0e]⟩) ?_
                refine tab_val (.pointer (some ⟨ba, oa + (j + 1) * 2, none⟩)) (fun r w1 hr hg hA => by obtain ⟨⟨_, q0⟩, ⟨_, q1⟩, ⟨_, q2⟩, -⟩ := hA; have q0e : r (.tmp 47) = .slice (some ⟨ba, oa, none⟩) n c := q0; have q1e : r (.tmp 48) = .int .i64 ((j : Int) + 1) := q1; have q2e : r (.tmp 41) = .bool true := q2; exact ⟨⟨_, q2e, rfl⟩, by simp [go_sem, q0e, q1e, hs1, hs2]⟩) ?_
                refine tab_val (.agg #[.int .i64 px, .int .i64 qy]) (fun r w1 hr hg hA => by obtain ⟨⟨_, q0⟩, ⟨_, q1⟩, -⟩ := hA; have q0e : r (.tmp 49) = .pointer (some ⟨ba, oa + (j + 1) * 2, none⟩) := q0; have q1e : r (.tmp 41) = .bool true := q1; have hc := CF.out w1 (hg1.trans hg); exact ⟨⟨_, q1e, rfl⟩, by simp [go_sem, q0e, hc]⟩) ?_
                refine tab_val (.agg #[.int .i64 lx, .int .i64 ly, .int .i64 hx, .int .i64 hy]) (fun r w1 hr hg hA => by obtain ⟨q0, ⟨_, q1⟩, -⟩ := hA; have q0e : r (.tmp 3) = .pointer (some ⟨w.heap.size, 0, none⟩) := q0; have q1e : r (.tmp 41) = .bool true := q1; have hc := CF.out w1 (hg1.trans hg); exact ⟨⟨_, q1e, rfl⟩, by simp [go_sem, q0e, hc]⟩) ?_
                refine tab_call (v := .bool false) (fun w1 hg => H4.out w1) (fun r w1 hr hg hA => by obtain ⟨⟨_, q0⟩, ⟨_, q1⟩, ⟨_, q2⟩, ⟨_, q3⟩, -⟩ := hA; have q0e : r (.tmp 46) = .agg #[.int .i64 px, .int .i64 py] := q0; have q1e : r (.tmp 50) = .agg #[.int .i64 px, .int .i64 qy] := q1; have q2e : r (.tmp 51) = .agg #[.int .i64 lx, .int .i64 ly, .int .i64 hx, .int .i64 hy] := q2; have q3e : r (.tmp 41) = .bool true := q3; exact ⟨⟨_, q3e, rfl⟩, by simp [go_sem, hr.func, q0e, q1e, q2e]⟩) ?_
                refine tab_end ?_
                simp only [List.reverse_cons, List.reverse_nil, List.nil_append, List.cons_append, Out, BlockP, forall_eq, forall_const, Act.put, List.setIfInBounds_toArray, List.set_cons_succ, List.set_cons_zero]
                intro wA hgA
                have GA := Lib.hid (hg1.trans hgA)
                clear hg1 hgA hg1' hw0 hwr hs1 hs2
                go_wp2
                exact ⟨⟨j + 1, by simp, Lib.hid (fun i hi => (Nat.lt_succ_iff_lt_or_eq.1 hi).elim (fun h => HB.out i h) (fun h => by rw [h]; exact HE.out)), Lib.hid (G.out.trans GA.out)⟩, by simp only [intOf]; omega⟩
              | true =>
                have HE := Lib.hid (HED.out.trans (by simp [e]) : redge ⟨lx, ly, hx, hy⟩ (gp l j) (gp l (j + 1)) = true)
                go_wp2_with fail
                refine wp_region_tab 41 (by kernel_rfl) (by kernel_rfl) ?_
                intro w0 hw0 hg1 hg1'
                simp only [List.take_succ_cons, List.take_zero, List.drop_succ_cons, List.drop_zero]
                refine tab_val (.slice (some ⟨ba, oa, none⟩) n c) (fun r w1 hr hg hA => by obtain ⟨q0, -⟩ := hA; have q0e : r (.tmp 0) = .slice (some ⟨ba, oa, none⟩) n c := q0; exact ⟨rfl, by simp [go_sem, q0e]⟩) ?_
                refine tab_val (.int .i64 ((j : Int) + 1)) (fun r w1 hr hg hA => by obtain ⟨q0, -⟩ := hA; have q0e : r (.tmp 5) = .int .i64 ((j : Int) + 1) := q0; exact ⟨rfl, by simp [go_sem, q0e]⟩) ?_
                refine tab_val (.int .i64 (j : Int)) (fun r w1 hr hg hA => by obtain ⟨⟨_, q0⟩, -⟩ := hA; have q0e : r (.tmp 13) = .int .i64 ((j : Int) + 1) := q0; exact ⟨rfl, by simp [go_sem, hr.const, q0e, i64w, hwr]⟩) ?_
                refine tab_val (.pointer (some ⟨ba, oa + j * 2, none⟩)) (fun r w1 hr hg hA => by obtain ⟨⟨_, q0⟩, ⟨_, q1⟩, -⟩ := hA; have q0e : r (.tmp 12) = .slice (some ⟨ba, oa, none⟩) n c := q0; have q1e : r (.tmp 14) = .int .i64 (j : Int) := q1; exact ⟨rfl, by simp [go_sem, q0e, q1e, hjn]⟩) ?_
                refine tab_val (.agg #[.int .i64 px, .int .i64 py]) (fun r w1 hr hg hA => by obtain ⟨⟨_, q0⟩, -⟩ := hA; have q0e : r (.tmp 15) = .pointer (some ⟨ba, oa + j * 2, none⟩) := q0; have hc := CF.out w1 (hg1.trans hg); exact ⟨rfl, by simp [go_sem, q0e, hc]⟩) ?_
                refine tab_val (.slice (some ⟨ba, oa, none⟩) n c) (fun r w1 hr hg hA => by obtain ⟨q0, -⟩ := hA; have q0e : r (.tmp 0) = .slice (some ⟨ba, oa, none⟩) n c := q0; exact ⟨rfl, by simp [go_sem, q0e]⟩) ?_
                refine tab_val (.int .i64 ((j : Int) + 1)) (fun r w1 hr hg hA => by obtain ⟨q0, -⟩ := hA; have q0e : r (.tmp 5) = .int .i64 ((j : Int) + 1) := q0; exact ⟨rfl, by simp [go_sem, q0e]⟩) ?_
                refine tab_val (.pointer (some ⟨ba, oa + (j + 1) * 2, none⟩)) (fun r w1 hr hg hA => by obtain ⟨⟨_, q0⟩, ⟨_, q1⟩, -⟩ := hA; have q0e : r (.tmp 17) = .slice (some ⟨ba, oa, none⟩) n c := q0; have q1e : r (.tmp 18) = .int .i64 ((j : Int) + 1) := q1; exact ⟨rfl, by simp [go_sem, q0e, q1e, hs1, hs2]⟩) ?_
                refine tab_val (.agg #[.int .i64 px, .int .i64 qy]) (fun r w1 hr hg hA => by obtain ⟨⟨_, q0⟩, -⟩ := hA; have q0e : r (.tmp 19) = .pointer (some ⟨ba, oa + (j + 1) * 2, none⟩) := q0; have hc := CF.out w1 (hg1.trans hg); exact ⟨rfl, by simp [go_sem, q0e, hc]⟩) ?_
                refine tab_val (.bool true) (fun r w1 hr hg hA => by obtain ⟨⟨_, q0⟩, ⟨_, q1⟩, -⟩ := hA; have q0e : r (.tmp 16) = .agg #[.int .i64 px, .int .i64 py] := q0; have q1e : r (.tmp 20) = .agg #[.int .i64 px, .int .i64 qy] := q1; exact ⟨rfl, by simp [go_sem, q0e, q1e, e]⟩) ?_
                refine tab_val (.bool true) (fun r w1 hr hg hA => by obtain ⟨⟨_, q0⟩, -⟩ := hA; have q0e : r (.tmp 21) = .bool true := q0; exact ⟨rfl, by simp [go_sem, q0e]⟩) ?_
                refine tab_val (.slice (some ⟨ba, oa, none⟩) n c) (fun r w1 hr hg hA => by obtain ⟨q0, ⟨_, q1⟩, -⟩ := hA; have q0e : r (.tmp 0) = .slice (some ⟨ba, oa, none⟩) n c := q0; have q1e : r (.tmp 22) = .bool true := q1; exact ⟨⟨_, q1e, rfl⟩, by simp [go_sem, q0e]⟩) ?_
                refine tab_val (.int .i64 ((j : Int) + 1)) (fun r w1 hr hg hA => by obtain ⟨q0, ⟨_, q1⟩, -⟩ := hA; have q0e : r (.tmp 5) = .int .i64 ((j : Int) + 1) := q0; have q1e : r (.tmp 22) = .bool true := q1; exact ⟨⟨_, q1e, rfl⟩, by simp [go_sem, q0e]⟩) ?_
                refine tab_val (.int .i64 (j : Int)) (fun r w1 hr hg hA => by obtain ⟨⟨_, q0⟩, ⟨_, q1⟩, -⟩ := hA; have q0e : r (.tmp 24) = .int .i64 ((j : Int) + 1) := q0; have q1e : r (.tmp 22) = .bool true := q1; exact ⟨⟨_, q1e, rfl⟩, by simp [go_sem, hr.const, q0e, i64w, hwr]⟩) ?_
                refine tab_val (.pointer (some ⟨ba, oa + j * 2, none⟩)) (fun r w1 hr hg hA => by obtain ⟨⟨_, q0⟩, ⟨_, q1⟩, ⟨_, q2⟩, -⟩ := hA; have q0e : r (.tmp 23) = .slice (some ⟨ba, oa, none⟩) n c := q0; have q1e : r (.tmp 25) = .int .i64 (j : Int) := q1; have q2e : r (.tmp 22) = .bool true := q2; exact ⟨⟨_, q2e, rfl⟩, by simp [go_sem, q0e, q1e, hjn]⟩) ?_
                refine tab_val (.agg #[.int .i64 px, .int .i64 py]) (fun r w1 hr hg hA => by obtain ⟨⟨_, q0⟩, ⟨_, q1⟩, -⟩ := hA; have q0e : r (.tmp 26) = .pointer (some ⟨ba, oa + j * 2, none⟩) := q0; have q1e : r (.tmp 22) = .bool true := q1; have hc := CF.out w1 (hg1.trans hg); exact ⟨⟨_, q1e, rfl⟩, by simp [go_sem, q0e, hc]⟩) ?_
                refine tab_call (v := .bool true) (fun w1 hg => H1.out w1) (fun r w1 hr hg hA => by obtain ⟨⟨_, q0⟩, ⟨_, q1⟩, -⟩ := hA; have q0e : r (.tmp 27) = .agg #[.int .i64 px, .int .i64 py] := q0; have q1e : r (.tmp 22) = .bool true := q1; exact ⟨⟨_, q1e, rfl⟩, by simp [go_sem, hr.func, q0e]⟩) ?_
                refine tab_val (.bool true) (fun r w1 hr hg hA => by obtain ⟨⟨_, q0⟩, ⟨_, q1⟩, -⟩ := hA; have q0e : r (.tmp 22) = .bool true := q0; have q1e : r (.tmp 28) = .bool true := q1; exact ⟨rfl, by simp [go_sem, q0e, q1e]⟩) ?_
                refine tab_val (.bool true) (fun r w1 hr hg hA => by obtain ⟨⟨_, q0⟩, -⟩ := hA; have q0e : r (.tmp 29) = .bool true := q0; exact ⟨rfl, by simp [go_sem, q0e]⟩) ?_
                refine tab_val (.slice (some ⟨ba, oa, none⟩) n c) (fun r w1 hr hg hA => by obtain ⟨q0, ⟨_, q1⟩, -⟩ := hA; have q0e : r (.tmp 0) = .slice (some ⟨ba, oa, none⟩) n c := q0; have q1e : r (.tmp 30) = .bool true := q1; exact ⟨⟨_, q1e, rfl⟩, by simp [go_sem, q0e]⟩) ?_
                refine tab_val (.int .i64 ((j : Int) + 1)) (fun r w1 hr hg hA => by obtain ⟨q0, ⟨_, q1⟩, -⟩ := hA; have q0e : r (.tmp 5) = .int .i64 ((j : Int) + 1) := q0; have q1e : r (.tmp 30) = .bool true := q1; exact ⟨⟨_, q1e, rfl⟩, by simp [go_sem, q0e]⟩) ?_
                refine tab_val (.pointer (some ⟨ba, oa + (j + 1) * 2, none⟩)) (fun r w1 hr hg hA => by obtain ⟨⟨_, q0⟩, ⟨_, q1⟩, ⟨_, q2⟩, -⟩ := hA; have q0e : r (.tmp 31) = .slice (some ⟨ba, oa, none⟩) n c := q0; have q1e : r (.tmp 32) = .int .i64 ((j : Int) + 1) := q1; have q2e : r (.tmp 30) = .bool true := q2; exact ⟨⟨_, q2e, rfl⟩, by simp [go_sem, q0e, q1e, hs1, hs2]⟩) ?_
                refine tab_val (.agg #[.int .i64 px, .int .i64 qy]) (fun r w1 hr hg hA => by obtain ⟨⟨_, q0⟩, ⟨_, q1⟩, -⟩ := hA; have q0e : r (.tmp 33) = .pointer (some ⟨ba, oa + (j + 1) * 2, none⟩) := q0; have q1e : r (.tmp 30) = .bool true := q1; have hc := CF.out w1 (hg1.trans hg); exact ⟨⟨_, q1e, rfl⟩, by simp [go_sem, q0e, hc]⟩) ?_
                refine tab_call (v := .bool true) (fun w1 hg => H2.out w1) (fun r w1 hr hg hA => by obtain ⟨⟨_, q0⟩, ⟨_, q1⟩, -⟩ := hA; have q0e : r (.tmp 34) = .agg #[.int .i64 px, .int .i64 qy] := q0; have q1e : r (.tmp 30) = .bool true := q1; exact ⟨⟨_, q1e, rfl⟩, by simp [go_sem, hr.func, q0e]⟩) ?_
                refine tab_val (.bool true) (fun r w1 hr hg hA => by obtain ⟨⟨_, q0⟩, ⟨_, q1⟩, -⟩ := hA; have q0e : r (.tmp 30) = .bool true := q0; have q1e : r (.tmp 35) = .bool true := q1; exact ⟨rfl, by simp [go_sem, q0e, q1e]⟩) ?_
                refine tab_val (.bool true) (fun r w1 hr hg hA => by obtain ⟨⟨_, q0⟩, -⟩ := hA; have q0e : r (.tmp 36) = .bool true := q0; exact ⟨rfl, by simp [go_sem, q0e]⟩) ?_
                refine tab_val (.agg #[.int .i64 lx, .int .i64 ly, .int .i64 hx, .int .i64 hy]) (fun r w1 hr hg hA => by obtain ⟨q0, ⟨_, q1⟩, -⟩ := hA; have q0e : r (.tmp 3) = .pointer (some ⟨w.heap.size, 0, none⟩) := q0; have q1e : r (.tmp 37) = .bool true := q1; have hc := CF.out w1 (hg1.trans hg); exact ⟨⟨_, q1e, rfl⟩, by simp [go_sem, q0e, hc]⟩) ?_
                refine tab_call (v := .bool true) (fun w1 hg => H3.out w1) (fun r w1 hr hg hA => by obtain ⟨⟨_, q0⟩, ⟨_, q1⟩, -⟩ := hA; have q0e : r (.tmp 38) = .agg #[.int .i64 lx, .int .i64 ly, .int .i64 hx, .int .i64 hy] := q0; have q1e : r (.tmp 37) = .bool true := q1; exact ⟨⟨_, q1e, rfl⟩, by simp [go_sem, hr.func, q0e]⟩) ?_
                refine tab_val (.bool true) (fun r w1 hr hg hA => by obtain ⟨⟨_, q0⟩, ⟨_, q1⟩, -⟩ := hA; have q0e : r (.tmp 37) = .bool true := q0; have q1e : r (.tmp 39) = .bool true := q1; exact ⟨rfl, by simp [go_sem, q0e, q1e]⟩) ?_
                refine tab_val (.bool true) (fun r w1 hr hg hA => by obtain ⟨⟨_, q0⟩, -⟩ := hA; have q0e : r (.tmp 40) = .bool true := q0; exact ⟨rfl, by simp [go_sem, q0e]⟩) ?_
                refine tab_val (.slice (some ⟨ba, oa, none⟩) n c) (fun r w1 hr hg hA => by obtain ⟨q0, ⟨_, q1⟩, -⟩ := hA; have q0e : r (.tmp 0) = .slice (some ⟨ba, oa, none⟩) n c := q0; have q1e : r (.tmp 41) = .bool true := q1; exact ⟨⟨_, q1e, rfl⟩, by simp [go_sem, q0e]⟩) ?_
                refine tab_val (.int .i64 ((j : Int) + 1)) (fun r w1 hr hg hA => by obtain ⟨q0, ⟨_, q1⟩, -⟩ := hA; have q0e : r (.tmp 5) = .int .i64 ((j : Int) + 1) := q0; have q1e : r (.tmp 41) = .bool true := q1; exact ⟨⟨_, q1e, rfl⟩, by simp [go_sem, q0e]⟩) ?_
                refine tab_val (.int .i64 (j : Int)) (fun r w1 hr hg hA => by obtain ⟨⟨_, q0⟩, ⟨_, q1⟩, -⟩ := hA; have q0e : r (.tmp 43) = .int .i64 ((j : Int) + 1) := q0; have q1e : r (.tmp 41) = .bool true := q1; exact ⟨⟨_, q1e, rfl⟩, by simp [go_sem, hr.const, q0e, i64w, hwr]⟩) ?_
                refine tab_val (.pointer (some ⟨ba, oa + j * 2, none⟩)) (fun r w1 hr hg hA => by obtain ⟨⟨_, q0⟩, ⟨_, q1⟩, ⟨_, q2⟩, -⟩ := hA; have q0e : r (.tmp 42) = .slice (some ⟨ba, oa, none⟩) n c := q0; have q1e : r (.tmp 44) = .int .i64 (j : Int) := q1; have q2e : r (.tmp 41) = .bool true := q2; exact ⟨⟨_, q2e, rfl⟩, by simp [go_sem, q0e, q1e, hjn]⟩) ?_
                refine tab_val (.agg #[.int .i64 px, .int .i64 py]) (fun r w1 hr hg hA => by obtain ⟨⟨_, q0⟩, ⟨_, q1⟩, -⟩ := hA; have q0e : r (.tmp 45) = .pointer (some ⟨ba, oa + j * 2, none⟩) := q0; have q1e : r (.tmp 41) = .bool true := q1; have hc := CF.out w1 (hg1.trans hg); exact ⟨⟨_, q1e, rfl⟩, by simp [go_sem, q0e, hc]⟩) ?_
                refine tab_val (.slice (some ⟨ba, oa, none⟩) n c) (fun r w1 hr hg hA => by obtain ⟨q0, ⟨_, q1⟩, -⟩ := hA; have q0e : r (.tmp 0) = .slice (some ⟨ba, oa, none⟩) n c := q0; have q1e : r (.tmp 41) = .bool true := q1; exact ⟨⟨_, q1e, rfl⟩, by simp [go_sem, q0e]⟩) ?_
                refine tab_val (.int .i64 ((j : Int) + 1)) (fun r w1 hr hg hA => by obtain ⟨q0, ⟨_, q1⟩, -⟩ := hA; have q0e : r (.tmp 5) = .int .i64 ((j : Int) + 1) := q0; have q1e : r (.tmp 41) = .bool true := q1; exact ⟨⟨_, q1e, rfl⟩, by simp [go_sem, q0e]⟩) ?_
                refine tab_val (.pointer (some ⟨ba, oa + (j + 1) * 2, none⟩)) (fun r w1 hr hg hA => by obtain ⟨⟨_, q0⟩, ⟨_, q1⟩, ⟨_, q2⟩, -⟩ := hA; have q0e : r (.tmp 47) = .slice (some ⟨ba, oa, none⟩) n c := q0; have q1e : r (.tmp 48) = .int .i64 ((j : Int) + 1) := q1; have q2e : r (.tmp 41) = .bool true := q2; exact ⟨⟨_, q2e, rfl⟩, by simp [go_sem, q0e, q1e, hs1, hs2]⟩) ?_
                refine tab_val (.agg #[.int .i64 px, .int .i64 qy]) (fun r w1 hr hg hA => by obtain ⟨⟨_, q0⟩, ⟨_, q1⟩, -⟩ := hA; have q0e : r (.tmp 49) = .pointer (some ⟨ba, oa + (j + 1) * 2, none⟩) := q0; have q1e : r (.tmp 41) = .bool true := q1; have hc := CF.out w1 (hg1.trans hg); exact ⟨⟨_, q1e, rfl⟩, by simp [go_sem, q0e, hc]⟩) ?_
                refine tab_val (.agg #[.int .i64 lx, .int .i64 ly, .int .i64 hx, .int .i64 hy]) (fun r w1 hr hg hA => by obtain ⟨q0, ⟨_, q1⟩, -⟩ := hA; have q0e : r (.tmp 3) = .pointer (some ⟨w.heap.size, 0, none⟩) := q0; have q1e : r (.tmp 41) = .bool true := q1; have hc := CF.out w1 (hg1.trans hg); exact ⟨⟨_, q1e, rfl⟩, by simp [go_sem, q0e, hc]⟩) ?_
                refine tab_call (v := .bool true) (fun w1 hg => H4.out w1) (fun r w1 hr hg hA => by obtain ⟨⟨_, q0⟩, ⟨_, q1⟩, ⟨_, q2⟩, ⟨_, q3⟩, -⟩ := hA; have q0e : r (.tmp 46) = .agg #[.int .i64 px, .int .i64 py] := q0; have q1e : r (.tmp 50) = .agg #[.int .i64 px, .int .i64 qy] := q1; have q2e : r (.tmp 51) = .agg #[.int .i64 lx, .int .i64 ly, .int .i64 hx, .int .i64 hy] := q2; have q3e : r (.tmp 41) = .bool true := q3; exact ⟨⟨_, q3e, rfl⟩, by simp [go_sem, hr.func, q0e, q1e, q2e]⟩) ?_
                refine tab_end ?_
                simp only [List.reverse_cons, List.reverse_nil, List.nil_append, List.cons_append, Out, BlockP, forall_eq, forall_const, Act.put, List.setIfInBounds_toArray, List.set_cons_succ, List.set_cons_zero]
                intro wA hgA
                have GA := Lib.hid (hg1.trans hgA)
                clear hg1 hgA hg1' hw0 hwr hs1 hs2
                go_wp2
                go_ret
                exact ⟨ret_bool (redge_yes (by rw [← HN.out]; omega) HE.out).symm, ((Grows.refl w).al _).trans (G.out.trans GA.out)⟩
    · have HF : Hid (rmeetsF l ⟨lx, ly, hx, hy⟩ = false) := Lib.hid (redge_no fun i hi => HB.out i (by have := HN.out; omega))
      have hs2 : ¬ ((j : Int) + 1 < (n : Int)) := by omega
      go_wp2
      go_ret
      exact ⟨ret_bool HF.out.symm, ((Grows.refl w).al _).trans G.out⟩
end Go.Proofs.Ytlkihbehiojimaa
