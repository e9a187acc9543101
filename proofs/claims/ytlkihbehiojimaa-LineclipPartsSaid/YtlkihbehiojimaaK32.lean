/-
  Layer 22: the law of parts: the walk.
-/
import Derived.Test.YtlkihbehiojimaaK31
import Derived.Test.YtlkihbehiojimaaK29
import Derived.Test.YtlkihbehiojimaaK9
import Derived.Test.YtlkihbehiojimaaCu
namespace Go.Proofs.Ytlkihbehiojimaa
open Go.RowKit Go.Tab Go.WideShapes

theorem frozz {w : World} {b : Nat} {cs : Array Value} {T : TypeId} (h : w.heap[b]? = some (.cells cs T (0, 0))) (o : Nat) : w.frozen? ⟨b, o, none⟩ = false := by
  simp [World.frozen?, h]
theorem set4 {w : World} {b : Nat} {T : TypeId} {t0 t1 t2 t3 s0 s1 s2 s3 : Value} (h : w.heap[b]? = some (.cells #[t0, t1, t2, t3] T (0, 0))) :
    ((((w.setCell ⟨b, 0, none⟩ s0).setCell ⟨b, 1, none⟩ s1).setCell ⟨b, 2, none⟩ s2).setCell ⟨b, 3, none⟩ s3).heap[b]? = some (.cells #[s0, s1, s2, s3] T (0, 0)) := by
  simp [World.setCell, Array.getElem?_modify, h]
theorem set4o {w : World} {b k : Nat} {s0 s1 s2 s3 : Value} (h : k ≠ b) :
    ((((w.setCell ⟨b, 0, none⟩ s0).setCell ⟨b, 1, none⟩ s1).setCell ⟨b, 2, none⟩ s2).setCell ⟨b, 3, none⟩ s3).heap[k]? = w.heap[k]? := by
  simp [World.setCell, Array.getElem?_modify, Ne.symm h]
theorem own_set4 {w : World} {base : Nat} {T T' : TypeId} {s n b : Nat} {v : Value} {xs : List Value} {cs : Array Value} {s0 s1 s2 s3 : Value} (h : w.ownsRow base T s v n xs) (hb : w.heap[b]? = some (.cells cs T' (0, 0))) (hT : T ≠ T') :
    ((((w.setCell ⟨b, 0, none⟩ s0).setCell ⟨b, 1, none⟩ s1).setCell ⟨b, 2, none⟩ s2).setCell ⟨b, 3, none⟩ s3).ownsRow base T s v n xs := by
  obtain ⟨h0, h1 | ⟨g, cap, cur, hv, hb', hh, rest⟩⟩ := h
  · exact ⟨h0, .inl h1⟩
  · refine ⟨h0, .inr ⟨g, cap, cur, hv, hb', ?_, rest⟩⟩
    rw [set4o]
    · exact hh
    · intro he
      subst he
      rw [hh] at hb
      injection hb with hb
      injection hb with _ hb
      exact hT hb
set_option maxHeartbeats 1000000 in
theorem lbox_any (lx ly hx hy : Int) (w : World) : Calls Try.prog 9 #[.agg #[.int .i64 lx, .int .i64 ly, .int .i64 hx, .int .i64 hy]] w (Ret (.agg #[.int .i64 lx, .int .i64 ly, .int .i64 hx, .int .i64 hy]) w) := by
  have BK : Hid (∀ w', Grows ((w.alloc (.cells #[.int .i64 lx, .int .i64 ly, .int .i64 hx, .int .i64 hy] 26)).alloc (.cells #[.int .i64 0, .int .i64 0, .int .i64 0, .int .i64 0] 32)) w' → w'.cell? ⟨w.heap.size, 0, none⟩ = some (.int .i64 lx) ∧ w'.cell? ⟨w.heap.size, 1, none⟩ = some (.int .i64 ly) ∧ w'.cell? ⟨w.heap.size, 2, none⟩ = some (.int .i64 hx) ∧ w'.cell? ⟨w.heap.size, 3, none⟩ = some (.int .i64 hy) ∧
      w'.heap[w.heap.size + 1]? = some (.cells #[.int .i64 0, .int .i64 0, .int .i64 0, .int .i64 0] 32 (0, 0))) := Lib.hid fun w' hg => by
    have h := cells4 (hg.block ((Grows.alloc _ _).block (heap_new w (.cells #[.int .i64 lx, .int .i64 ly, .int .i64 hx, .int .i64 hy] 26) _ rfl)))
    exact ⟨h.1, h.2.1, h.2.2.1, h.2.2.2, hg.block (heap_new _ _ _ (by simp only [World.size_alloc]))⟩
  go_enter Try.func9, Try.ntmps9
  go_wp2_with fail
  refine wp_region_tab 7 (by kernel_rfl) (by kernel_rfl) ?_
  intro w0 hw0 hg1 hg1'
  simp only [List.take_succ_cons, List.take_zero, List.drop_succ_cons, List.drop_zero]
  refine tab_val (.pointer (some ⟨w.heap.size, 0, none⟩)) (fun r w1 hr hg hA => by obtain ⟨q0, -⟩ := hA; have q0e : r (.tmp 1) = .pointer (some ⟨w.heap.size, 0, none⟩) := q0; exact ⟨rfl, by simp [go_sem, q0e]⟩) ?_
  refine tab_val (.agg #[.int .i64 lx, .int .i64 ly]) (fun r w1 hr hg hA => by obtain ⟨⟨_, q0⟩, -⟩ := hA; have q0e : r (.tmp 3) = .pointer (some ⟨w.heap.size, 0, none⟩) := q0; have hc := BK.out w1 (hg1.trans hg); exact ⟨rfl, by simp [go_sem, q0e, hc]⟩) ?_
  refine tab_call (v := .agg #[.int .i64 lx, .int .i64 ly]) (fun w1 hg => of_any lx ly w1) (fun r w1 hr hg hA => by obtain ⟨⟨_, q0⟩, -⟩ := hA; have q0e : r (.tmp 4) = .agg #[.int .i64 lx, .int .i64 ly] := q0; exact ⟨rfl, by simp [go_sem, hr.func, q0e]⟩) ?_
  refine tab_val (.pointer (some ⟨w.heap.size, 2, none⟩)) (fun r w1 hr hg hA => by obtain ⟨q0, -⟩ := hA; have q0e : r (.tmp 1) = .pointer (some ⟨w.heap.size, 0, none⟩) := q0; exact ⟨rfl, by simp [go_sem, q0e]⟩) ?_
  refine tab_val (.agg #[.int .i64 hx, .int .i64 hy]) (fun r w1 hr hg hA => by obtain ⟨⟨_, q0⟩, -⟩ := hA; have q0e : r (.tmp 6) = .pointer (some ⟨w.heap.size, 2, none⟩) := q0; have hc := BK.out w1 (hg1.trans hg); exact ⟨rfl, by simp [go_sem, q0e, hc]⟩) ?_
  refine tab_call (v := .agg #[.int .i64 hx, .int .i64 hy]) (fun w1 hg => of_any hx hy w1) (fun r w1 hr hg hA => by obtain ⟨⟨_, q0⟩, -⟩ := hA; have q0e : r (.tmp 7) = .agg #[.int .i64 hx, .int .i64 hy] := q0; exact ⟨rfl, by simp [go_sem, hr.func, q0e]⟩) ?_
  refine tab_val (.agg #[.int .i64 lx, .int .i64 ly, .int .i64 hx, .int .i64 hy]) (fun r w1 hr hg hA => by obtain ⟨⟨_, q0⟩, ⟨_, q1⟩, -⟩ := hA; have q0e : r (.tmp 5) = .agg #[.int .i64 lx, .int .i64 ly] := q0; have q1e : r (.tmp 8) = .agg #[.int .i64 hx, .int .i64 hy] := q1; exact ⟨rfl, by simp [go_sem, q0e, q1e]⟩) ?_
  refine tab_end ?_
  simp only [List.reverse_cons, List.reverse_nil, List.nil_append, List.cons_append, Out, BlockP, forall_eq, forall_const, Act.put, List.setIfInBounds_toArray, List.set_cons_succ, List.set_cons_zero]
  intro wA hgA
  obtain ⟨-, -, -, -, hc⟩ := BK.out wA (hg1.trans hgA)
  obtain ⟨c0, c1, c2, c3⟩ := cells4 hc
  have f0 := frozz hc 0
  have f1 := frozz hc 1
  have f2 := frozz hc 2
  have f3 := frozz hc 3
  have G : Hid (Grows w wA) := Lib.hid ((((Grows.refl w).al _).al _).trans (hg1.trans hgA))
  clear hg1 hgA hg1' hw0 hc BK
  go_wp2
  exact bodyPost_ret (v := .agg #[.int .i64 lx, .int .i64 ly, .int .i64 hx, .int .i64 hy]) (by simp [results, Try.results9, go_sem, c0, c1, c2, c3]) rfl ⟨rfl, (((G.out.st (by simp) _).st (by simp) _).st (by simp) _).st (by simp) _⟩

/-- What lies there while the law goes on. -/
def LS (w wr : World) (a : Option Addr) (n c : Nat) (vO : Value) (b6 : Nat) (L : List (Int × Int)) (lx ly hx hy : Int) : Prop :=
  Grows w wr ∧ wr.heap[w.heap.size]? = some (.cells #[.int .i64 lx, .int .i64 ly, .int .i64 hx, .int .i64 hy] 26 (0, 0)) ∧ wr.heap[b6]? = some (.cells #[.int .i64 lx, .int .i64 ly, .int .i64 hx, .int .i64 hy] 32 (0, 0)) ∧ PtsAt wr (.slice a n c) L ∧ PtsAt wr vO L
theorem LS.grows {w wr w' : World} {a : Option Addr} {n c : Nat} {vO : Value} {b6 : Nat} {L : List (Int × Int)} {lx ly hx hy : Int} (h : LS w wr a n c vO b6 L lx ly hx hy) (hg : Grows wr w') : LS w w' a n c vO b6 L lx ly hx hy :=
  ⟨h.1.trans hg, hg.block h.2.1, hg.block h.2.2.1, h.2.2.2.1.grows hg, h.2.2.2.2.grows hg⟩
theorem parts_rows (u : Value) (l : List (Int × Int)) (b : BoxI) (w : World) (hu : PtsAt w u l) (hn : l.length ≤ 1000) : Calls Try.prog 14 #[u, bx b] w (fun e w' => ∃ v, e = .returned v ∧ RowsAt w' v ((partsI (shS b l) l.length 0).map (prow l)) ∧ Grows w w') :=
  (parts_any u l b w hu hn).mono fun e w' ⟨v, g, cp, he, ho, hp, hg⟩ => ⟨v, he, parts_rowsAt rfl ho hp, hg⟩
theorem cnt_law (s : Nat → Bool) {n k : Nat} (h : k + 1 = n ∨ (k = 0 ∧ n = 0)) : cntL (partsI s n 0) = ((List.range k).filter s).length := by
  rcases h with rfl | ⟨rfl, rfl⟩
  · exact cnt_edges s k
  · unfold partsI cntL; simp
theorem cnt_yes (s : Nat → Bool) {k : Nat} (h : s k = true) : ((List.range (k + 1)).filter s).length = ((List.range k).filter s).length + 1 := by
  simp [List.range_succ, h]
theorem cnt_no (s : Nat → Bool) {k : Nat} (h : s k = false) : ((List.range (k + 1)).filter s).length = ((List.range k).filter s).length := by
  simp [List.range_succ, h]
theorem cnt_le (s : Nat → Bool) (k : Nat) : ((List.range k).filter s).length ≤ k := by
  have := List.length_filter_le s (List.range k)
  simpa using this
theorem prow_le (l : List (Int × Int)) (p : Nat × Nat) : (prow l p).length ≤ l.length := by
  unfold prow
  rw [List.length_take, List.length_drop]
  omega

set_option maxRecDepth 100000 in
set_option maxHeartbeats 8000000 in
theorem parts_law (a : Option Addr) (n0 c : Nat) (L : List (Int × Int)) (b : BoxI) (w : World) (hnc0 : n0 ≤ c) (hac : a = none → c = 0) (hu : PtsAt w (.slice a (min n0 40) c) L) : Calls Try.prog 3 #[.slice a n0 c, bx b] w (Ret (.bool true) w) := by
  obtain ⟨lx, ly, hx, hy⟩ := b
  have hcut := cut_slice a n0 c (w.alloc (.cells #[.int .i64 lx, .int .i64 ly, .int .i64 hx, .int .i64 hy] 26)) hnc0 hac
  obtain ⟨n, hn⟩ : ∃ n, n = min n0 40 := ⟨_, rfl⟩
  have hL : n ≤ 40 := by rw [hn]; exact Nat.min_le_right _ _
  rw [← hn] at hcut hu
  obtain ⟨a', c', hv, hnc, _⟩ := hu.shape
  have hln : n = L.length := by injection hv
  have hcc : c = c' := by injection hv
  rw [← hln] at hnc
  rw [← hcc] at hnc
  have HL3 : Hid (L.length ≤ 1000) := Lib.hid (by omega)
  have HN := Lib.hid hln
  clear hac hnc0 hn hv hcc hln
  have HPT0 := Lib.hid hu
  have HPT : Hid (∀ w', Grows w w' → PtsAt w' (.slice a n c) L) := Lib.hid (fun w' hg => HPT0.out.grows hg)
  have HCUT := Lib.hid hcut
  clear hu hcut
  have BX0 : Hid (∀ w', Grows (w.alloc (.cells #[.int .i64 lx, .int .i64 ly, .int .i64 hx, .int .i64 hy] 26)) w' → w'.heap[w.heap.size]? = some (.cells #[.int .i64 lx, .int .i64 ly, .int .i64 hx, .int .i64 hy] 26 (0, 0))) := Lib.hid fun w' hg => hg.block (heap_new _ _ _ rfl)
  go_enter Try.func3, Try.ntmps3
  go_wp2_with fail
  refine HCUT.out.mono ?_
  rintro _ w1 ⟨rfl, hg⟩
  have HG1 := Lib.hid hg
  have BK := Lib.hid (fun w' (hg : Grows w1 w') => cells4 (BX0.out w' (HG1.out.trans hg)))
  have HPT := Lib.hid (fun w' (hg : Grows w1 w') => HPT.out w' (((Grows.refl w).al _).trans (HG1.out.trans hg)))
  clear hg
  go_wp2_with fail
  refine wp_region_tab 5 (by kernel_rfl) (by kernel_rfl) ?_
  intro w0 hw0 hg1 hg1'
  simp only [List.take_succ_cons, List.take_zero, List.drop_succ_cons, List.drop_zero]
  refine tab_val (.slice a n c) (fun r w1 hr hg hA => by obtain ⟨q0, -⟩ := hA; have q0e : r (.tmp 0) = .slice a n c := q0; exact ⟨rfl, by simp [go_sem, q0e]⟩) ?_
  refine tab_callQ (f := 8) (fun v w => w.ownsRow w0.heap.size 30 2 v n (flat L)) (fun v w w' h hg => ownsRow_later h hg) (fun r w1 hr hg hA => by obtain ⟨⟨_, q0⟩, -⟩ := hA; have q0e : r (.tmp 12) = .slice a n c := q0; exact ⟨rfl, #[.slice a n c], by simp [go_sem, hr.func, q0e], by have h1 := ofs_any (.slice a n c) L w1 (HPT.out _ (hg1.trans hg)) HL3.out; rw [← HN.out] at h1; exact h1.mono fun e w2 ⟨u, he, ho, hgg⟩ => ⟨u, he, own_base ho hg.size, hgg⟩⟩) ?_
  refine tab_val (.agg #[.int .i64 lx, .int .i64 ly, .int .i64 hx, .int .i64 hy]) (fun r w1 hr hg hA => by obtain ⟨q0, -⟩ := hA; have q0e : r (.tmp 3) = .pointer (some ⟨w.heap.size, 0, none⟩) := q0; have hc := BK.out w1 (hg1.trans hg); exact ⟨rfl, by simp [go_sem, q0e, hc]⟩) ?_
  refine tab_call (v := .agg #[.int .i64 lx, .int .i64 ly, .int .i64 hx, .int .i64 hy]) (fun w1 hg => lbox_any lx ly hx hy w1) (fun r w1 hr hg hA => by obtain ⟨⟨_, q0⟩, -⟩ := hA; have q0e : r (.tmp 14) = .agg #[.int .i64 lx, .int .i64 ly, .int .i64 hx, .int .i64 hy] := q0; exact ⟨rfl, by simp [go_sem, hr.func, q0e]⟩) ?_
  refine tab_new (.cells #[.int .i64 0, .int .i64 0, .int .i64 0, .int .i64 0] 32) (fun b => .pointer (some ⟨b, 0, none⟩)) (fun r w1 hr hg hA => by exact ⟨rfl, by simp [go_sem]⟩) ?_
  refine tab_end ?_
  simp only [List.reverse_cons, List.reverse_nil, List.nil_append, List.cons_append, Out, BlockP, forall_eq, forall_const, Act.put, List.setIfInBounds_toArray, List.set_cons_succ, List.set_cons_zero]
  intro wA hgA vO hO b6 v6 h6 hb6l hb6u hap
  obtain ⟨rfl, hb6⟩ := h6
  clear hap
  have HOW : Hid (wA.ownsRow w0.heap.size 30 2 vO n (flat L)) := Lib.hid hO
  have HB6 := Lib.hid hb6
  have G0 : Hid (Grows w wA) := Lib.hid (((Grows.refl w).al _).trans (HG1.out.trans (hg1.trans hgA)))
  have HH6 : Hid (w.heap.size ≤ b6 ∧ w.heap.size ≠ b6 ∧ b6 < wA.heap.size) := Lib.hid (by have h1 := (((Grows.refl w).al (.cells #[.int .i64 lx, .int .i64 ly, .int .i64 hx, .int .i64 hy] 26)).trans (HG1.out.trans hg1)).size; have h2 := (HG1.out.trans hg1).size; rw [World.size_alloc] at h2; omega)
  have HBX : Hid (wA.heap[w.heap.size]? = some (.cells #[.int .i64 lx, .int .i64 ly, .int .i64 hx, .int .i64 hy] 26 (0, 0))) := Lib.hid (BX0.out wA (HG1.out.trans (hg1.trans hgA)))
  obtain ⟨c0, c1, c2, c3⟩ := cells4 hb6
  have f0 := frozz hb6 0
  have f1 := frozz hb6 1
  have f2 := frozz hb6 2
  have f3 := frozz hb6 3
  clear hO hb6 hb6l hb6u hg1 hgA hg1' hw0 BK HPT
  have HI : Hid (LS w (((((wA.setCell ⟨b6, 0, none⟩ (.int .i64 lx)).setCell ⟨b6, 1, none⟩ (.int .i64 ly)).setCell ⟨b6, 2, none⟩ (.int .i64 hx)).setCell ⟨b6, 3, none⟩ (.int .i64 hy))) a n c vO b6 L lx ly hx hy) := Lib.hid ⟨(((G0.out.st HH6.out.1 _).st HH6.out.1 _).st HH6.out.1 _).st HH6.out.1 _, (set4o HH6.out.2.1).trans HBX.out, set4 HB6.out, HPT0.out.grows ((((G0.out.st HH6.out.1 _).st HH6.out.1 _).st HH6.out.1 _).st HH6.out.1 _), own_pts (own_set4 HOW.out HB6.out (by decide)) HN.out (by have := HL3.out; omega)⟩
  have HSH := Lib.hid HI.out.2.2.2.2.shape
  obtain ⟨aO, co, rfl, hco, -⟩ := HSH.out
  rw [← HN.out] at hco HI HOW ⊢
  clear HSH
  go_wp2
  go_loopw [7, 8] (fun q i wr => ∃ k : Nat, i = .int .i64 ((k : Int) + 1) ∧ q = .int .i64 (((List.range k).filter (shS ⟨lx, ly, hx, hy⟩ L)).length : Int) ∧ (k + 1 ≤ n ∨ k = 0) ∧ Hid (LS w wr a n c (.slice aO n co) b6 L lx ly hx hy)) (fun _ i _ => n + 2 - (intOf i).toNat)
  case atStart => exact ⟨0, by simp, by simp, .inr rfl, HI⟩
  case round =>
    obtain ⟨k, rfl, rfl, hk, HJ⟩ := hrel
    obtain ⟨cN, hcN⟩ : ∃ q, q = ((List.range k).filter (shS ⟨lx, ly, hx, hy⟩ L)).length := ⟨_, rfl⟩
    have HCL : Hid (cN ≤ k) := Lib.hid (by rw [hcN]; exact cnt_le _ _)
    rw [← hcN]
    have HCN := Lib.hid hcN
    clear hcN HI
    by_cases hkn1 : k + 1 < n
    · have hkn : k < n := by omega
      obtain ⟨ba, oa, rfl, hba, -, -⟩ := HJ.out.2.2.2.1.at_ (i := k) (by rw [← HN.out]; exact hkn)
      obtain ⟨bo, oo, rfl, hbo, -, -⟩ := HJ.out.2.2.2.2.at_ (i := k) (by rw [← HN.out]; exact hkn)
      have hp0 : ∀ w', Grows wr w' → _ := fun w' (hg : Grows wr w') => And.intro ((HJ.out.grows hg).2.2.2.1.at_cell (i := k) (by rw [← HN.out]; exact hkn)) ((HJ.out.grows hg).2.2.2.2.at_cell (i := k) (by rw [← HN.out]; exact hkn))
      have hq0 : ∀ w', Grows wr w' → _ := fun w' (hg : Grows wr w') => And.intro ((HJ.out.grows hg).2.2.2.1.at_cell (i := k + 1) (by rw [← HN.out]; exact hkn1)) ((HJ.out.grows hg).2.2.2.2.at_cell (i := k + 1) (by rw [← HN.out]; exact hkn1))
      have HSK := Lib.hid (show shS ⟨lx, ly, hx, hy⟩ L k = shownB (gp L k).1 (gp L k).2 (gp L (k + 1)).1 (gp L (k + 1)).2 ⟨lx, ly, hx, hy⟩ from rfl)
      unfold gp at HSK
      generalize L.getD k (0, 0) = p at hp0 HSK
      generalize L.getD (k + 1) (0, 0) = q at hq0 HSK
      obtain ⟨px, py⟩ := p
      obtain ⟨qx, qy⟩ := q
      simp only at hp0 hq0 HSK
      have CF : Hid (∀ w', Grows wr w' → _) := Lib.hid (fun w' hg => And.intro (hp0 w' hg) (And.intro (hq0 w' hg) (And.intro (cells4 (HJ.out.grows hg).2.1) (cells4 (HJ.out.grows hg).2.2.1))))
      have H1 := Lib.hid (fun w => rshown_any px py qx qy ⟨lx, ly, hx, hy⟩ w)
      have H2 := Lib.hid (fun w => shown_any px py qx qy ⟨lx, ly, hx, hy⟩ w)
      rw [← HSK.out] at H1 H2
      have HCY := Lib.hid (fun h => cnt_yes (shS ⟨lx, ly, hx, hy⟩ L) (k := k) h)
      have HCZ := Lib.hid (fun h => cnt_no (shS ⟨lx, ly, hx, hy⟩ L) (k := k) h)
      rw [← HCN.out] at HCY HCZ
      obtain ⟨m, hm⟩ : ∃ m, m = shS ⟨lx, ly, hx, hy⟩ L k := ⟨_, rfl⟩
      rw [← hm] at H1 H2 HCY HCZ
      clear hp0 hq0 hm HSK
      have hs1 : (0 : Int) ≤ (k : Int) + 1 := Int.add_nonneg (Int.natCast_nonneg k) (by decide)
      have hs2 : ¬ ((n : Int) ≤ (k : Int) + 1) := fun h => absurd (Int.ofNat_le.1 (show ((n : Nat) : Int) ≤ ((k + 1 : Nat) : Int) from h)) (Nat.not_le.2 hkn1)
      have hwr : wrap64 (k : Int) = (k : Int) := by unfold wrap64; omega
      go_wp2_with fail
      refine wp_region_tab 11 (by kernel_rfl) (by kernel_rfl) ?_
      intro w0 hw0 hg1 hg1'
      simp only [List.take_succ_cons, List.take_zero, List.drop_succ_cons, List.drop_zero]
      refine tab_val (.slice (some ⟨bo, oo, none⟩) n co) (fun r w1 hr hg hA => by obtain ⟨q0, -⟩ := hA; have q0e : r (.tmp 5) = .slice (some ⟨bo, oo, none⟩) n co := q0; exact ⟨rfl, by simp [go_sem, q0e]⟩) ?_
      refine tab_val (.int .i64 ((k : Int) + 1)) (fun r w1 hr hg hA => by obtain ⟨q0, -⟩ := hA; have q0e : r (.tmp 8) = .int .i64 ((k : Int) + 1) := q0; exact ⟨rfl, by simp [go_sem, q0e]⟩) ?_
      refine tab_val (.int .i64 (k : Int)) (fun r w1 hr hg hA => by obtain ⟨⟨_, q0⟩, -⟩ := hA; have q0e : r (.tmp 23) = .int .i64 ((k : Int) + 1) := q0; exact ⟨rfl, by simp [go_sem, hr.const, q0e, i64w, hwr]⟩) ?_
      refine tab_val (.pointer (some ⟨bo, oo + k * 2, none⟩)) (fun r w1 hr hg hA => by obtain ⟨⟨_, q0⟩, ⟨_, q1⟩, -⟩ := hA; have q0e : r (.tmp 22) = .slice (some ⟨bo, oo, none⟩) n co := q0; have q1e : r (.tmp 24) = .int .i64 (k : Int) := q1; exact ⟨rfl, by simp [go_sem, q0e, q1e, hkn]⟩) ?_
      refine tab_val (.agg #[.int .i64 px, .int .i64 py]) (fun r w1 hr hg hA => by obtain ⟨⟨_, q0⟩, -⟩ := hA; have q0e : r (.tmp 25) = .pointer (some ⟨bo, oo + k * 2, none⟩) := q0; have hc := CF.out w1 (hg1.trans hg); exact ⟨rfl, by simp [go_sem, q0e, hc]⟩) ?_
      refine tab_val (.slice (some ⟨bo, oo, none⟩) n co) (fun r w1 hr hg hA => by obtain ⟨q0, -⟩ := hA; have q0e : r (.tmp 5) = .slice (some ⟨bo, oo, none⟩) n co := q0; exact ⟨rfl, by simp [go_sem, q0e]⟩) ?_
      refine tab_val (.int .i64 ((k : Int) + 1)) (fun r w1 hr hg hA => by obtain ⟨q0, -⟩ := hA; have q0e : r (.tmp 8) = .int .i64 ((k : Int) + 1) := q0; exact ⟨rfl, by simp [go_sem, q0e]⟩) ?_
      refine tab_val (.pointer (some ⟨bo, oo + (k + 1) * 2, none⟩)) (fun r w1 hr hg hA => by obtain ⟨⟨_, q0⟩, ⟨_, q1⟩, -⟩ := hA; have q0e : r (.tmp 27) = .slice (some ⟨bo, oo, none⟩) n co := q0; have q1e : r (.tmp 28) = .int .i64 ((k : Int) + 1) := q1; exact ⟨rfl, by simp [go_sem, q0e, q1e, hs1, hs2]⟩) ?_
      refine tab_val (.agg #[.int .i64 qx, .int .i64 qy]) (fun r w1 hr hg hA => by obtain ⟨⟨_, q0⟩, -⟩ := hA; have q0e : r (.tmp 29) = .pointer (some ⟨bo, oo + (k + 1) * 2, none⟩) := q0; have hc := CF.out w1 (hg1.trans hg); exact ⟨rfl, by simp [go_sem, q0e, hc]⟩) ?_
      refine tab_val (.agg #[.int .i64 lx, .int .i64 ly, .int .i64 hx, .int .i64 hy]) (fun r w1 hr hg hA => by obtain ⟨q0, -⟩ := hA; have q0e : r (.tmp 6) = .pointer (some ⟨b6, 0, none⟩) := q0; have hc := CF.out w1 (hg1.trans hg); exact ⟨rfl, by simp [go_sem, q0e, hc]⟩) ?_
      refine tab_call (v := .bool m) (fun w1 hg => H1.out w1) (fun r w1 hr hg hA => by obtain ⟨⟨_, q0⟩, ⟨_, q1⟩, ⟨_, q2⟩, -⟩ := hA; have q0e : r (.tmp 26) = .agg #[.int .i64 px, .int .i64 py] := q0; have q1e : r (.tmp 30) = .agg #[.int .i64 qx, .int .i64 qy] := q1; have q2e : r (.tmp 31) = .agg #[.int .i64 lx, .int .i64 ly, .int .i64 hx, .int .i64 hy] := q2; exact ⟨rfl, by simp [go_sem, hr.func, q0e, q1e, q2e]⟩) ?_
      refine tab_end ?_
      simp only [List.reverse_cons, List.reverse_nil, List.nil_append, List.cons_append, Out, BlockP, forall_eq, forall_const, Act.put, List.setIfInBounds_toArray, List.set_cons_succ, List.set_cons_zero]
      intro wB hgB
      have G7 : Hid (Grows wr wB) := Lib.hid (hg1.trans hgB)
      clear hg1 hgB hg1' hw0
      go_wp2_with fail
      refine wp_region_tab 13 (by kernel_rfl) (by kernel_rfl) ?_
      intro w0 hw0 hg1 hg1'
      simp only [List.take_succ_cons, List.take_zero, List.drop_succ_cons, List.drop_zero]
      refine tab_val (.slice (some ⟨ba, oa, none⟩) n c) (fun r w1 hr hg hA => by obtain ⟨q0, -⟩ := hA; have q0e : r (.tmp 0) = .slice (some ⟨ba, oa, none⟩) n c := q0; exact ⟨rfl, by simp [go_sem, q0e]⟩) ?_
      refine tab_val (.int .i64 ((k : Int) + 1)) (fun r w1 hr hg hA => by obtain ⟨q0, -⟩ := hA; have q0e : r (.tmp 8) = .int .i64 ((k : Int) + 1) := q0; exact ⟨rfl, by simp [go_sem, q0e]⟩) ?_
      refine tab_val (.int .i64 (k : Int)) (fun r w1 hr hg hA => by obtain ⟨⟨_, q0⟩, -⟩ := hA; have q0e : r (.tmp 34) = .int .i64 ((k : Int) + 1) := q0; exact ⟨rfl, by simp [go_sem, hr.const, q0e, i64w, hwr]⟩) ?_
      refine tab_val (.pointer (some ⟨ba, oa + k * 2, none⟩)) (fun r w1 hr hg hA => by obtain ⟨⟨_, q0⟩, ⟨_, q1⟩, -⟩ := hA; have q0e : r (.tmp 33) = .slice (some ⟨ba, oa, none⟩) n c := q0; have q1e : r (.tmp 35) = .int .i64 (k : Int) := q1; exact ⟨rfl, by simp [go_sem, q0e, q1e, hkn]⟩) ?_
      refine tab_val (.agg #[.int .i64 px, .int .i64 py]) (fun r w1 hr hg hA => by obtain ⟨⟨_, q0⟩, -⟩ := hA; have q0e : r (.tmp 36) = .pointer (some ⟨ba, oa + k * 2, none⟩) := q0; have hc := CF.out w1 (G7.out.trans (hg1.trans hg)); exact ⟨rfl, by simp [go_sem, q0e, hc]⟩) ?_
      refine tab_val (.slice (some ⟨ba, oa, none⟩) n c) (fun r w1 hr hg hA => by obtain ⟨q0, -⟩ := hA; have q0e : r (.tmp 0) = .slice (some ⟨ba, oa, none⟩) n c := q0; exact ⟨rfl, by simp [go_sem, q0e]⟩) ?_
      refine tab_val (.int .i64 ((k : Int) + 1)) (fun r w1 hr hg hA => by obtain ⟨q0, -⟩ := hA; have q0e : r (.tmp 8) = .int .i64 ((k : Int) + 1) := q0; exact ⟨rfl, by simp [go_sem, q0e]⟩) ?_
      refine tab_val (.pointer (some ⟨ba, oa + (k + 1) * 2, none⟩)) (fun r w1 hr hg hA => by obtain ⟨⟨_, q0⟩, ⟨_, q1⟩, -⟩ := hA; have q0e : r (.tmp 38) = .slice (some ⟨ba, oa, none⟩) n c := q0; have q1e : r (.tmp 39) = .int .i64 ((k : Int) + 1) := q1; exact ⟨rfl, by simp [go_sem, q0e, q1e, hs1, hs2]⟩) ?_
      refine tab_val (.agg #[.int .i64 qx, .int .i64 qy]) (fun r w1 hr hg hA => by obtain ⟨⟨_, q0⟩, -⟩ := hA; have q0e : r (.tmp 40) = .pointer (some ⟨ba, oa + (k + 1) * 2, none⟩) := q0; have hc := CF.out w1 (G7.out.trans (hg1.trans hg)); exact ⟨rfl, by simp [go_sem, q0e, hc]⟩) ?_
      refine tab_val (.agg #[.int .i64 lx, .int .i64 ly, .int .i64 hx, .int .i64 hy]) (fun r w1 hr hg hA => by obtain ⟨q0, -⟩ := hA; have q0e : r (.tmp 3) = .pointer (some ⟨w.heap.size, 0, none⟩) := q0; have hc := CF.out w1 (G7.out.trans (hg1.trans hg)); exact ⟨rfl, by simp [go_sem, q0e, hc]⟩) ?_
      refine tab_call (v := .bool m) (fun w1 hg => H2.out w1) (fun r w1 hr hg hA => by obtain ⟨⟨_, q0⟩, ⟨_, q1⟩, ⟨_, q2⟩, -⟩ := hA; have q0e : r (.tmp 37) = .agg #[.int .i64 px, .int .i64 py] := q0; have q1e : r (.tmp 41) = .agg #[.int .i64 qx, .int .i64 qy] := q1; have q2e : r (.tmp 42) = .agg #[.int .i64 lx, .int .i64 ly, .int .i64 hx, .int .i64 hy] := q2; exact ⟨rfl, by simp [go_sem, hr.func, q0e, q1e, q2e]⟩) ?_
      refine tab_val (.bool m) (fun r w1 hr hg hA => by obtain ⟨q0, -⟩ := hA; have q0e : r (.tmp 9) = .bool m := q0; exact ⟨rfl, by simp [go_sem, q0e]⟩) ?_
      refine tab_val (.bool false) (fun r w1 hr hg hA => by obtain ⟨⟨_, q0⟩, ⟨_, q1⟩, -⟩ := hA; have q0e : r (.tmp 43) = .bool m := q0; have q1e : r (.tmp 44) = .bool m := q1; exact ⟨rfl, by simp [go_sem, q0e, q1e]⟩) ?_
      refine tab_end ?_
      simp only [List.reverse_cons, List.reverse_nil, List.nil_append, List.cons_append, Out, BlockP, forall_eq, forall_const, Act.put, List.setIfInBounds_toArray, List.set_cons_succ, List.set_cons_zero]
      intro wC hgC
      have HI8 : Hid (LS w wC (some ⟨ba, oa, none⟩) n c (.slice (some ⟨bo, oo, none⟩) n co) b6 L lx ly hx hy) := Lib.hid (HJ.out.grows (G7.out.trans (hg1.trans hgC)))
      clear hg1 hgC hg1' hw0 hwr hs1 hs2
      have hcl := HCL.out
      cases m with
      | false =>
        go_wp2
        exact ⟨⟨k + 1, by simp, by rw [HCZ.out rfl], by omega, Lib.hid (HI8.out)⟩, by simp only [intOf]; omega⟩
      | true =>
        go_wp2
        exact ⟨⟨k + 1, by simp, by rw [HCY.out rfl]; simp, by omega, Lib.hid (HI8.out)⟩, by simp only [intOf]; omega⟩
    · have hend : k + 1 = n ∨ (k = 0 ∧ n = 0) := by omega
      have hk2 : ¬ ((k : Int) + 1 < (n : Int)) := by omega
      obtain ⟨PS, hPS⟩ : ∃ PS, PS = (partsI (shS ⟨lx, ly, hx, hy⟩ L) L.length 0).map (prow L) := ⟨_, rfl⟩
      have H3 : Hid (∀ w', Grows wr w' → Calls Try.prog 16 #[.slice a n c, .agg #[.int .i64 lx, .int .i64 ly, .int .i64 hx, .int .i64 hy]] w' (Ret (.int .i64 (cN : Int)) w')) := Lib.hid (fun w' hg => by
        have h := count_any (.slice a n c) L ⟨lx, ly, hx, hy⟩ w' (HJ.out.grows hg).2.2.2.1 HL3.out
        rw [← HN.out, cnt_law _ hend, ← HCN.out] at h
        exact h)
      obtain ⟨mm, hmm⟩ : ∃ mm, mm = meetsF L ⟨lx, ly, hx, hy⟩ := ⟨_, rfl⟩
      have H4 : Hid (∀ w', Grows wr w' → Calls Try.prog 17 #[.slice a n c, .agg #[.int .i64 lx, .int .i64 ly, .int .i64 hx, .int .i64 hy]] w' (Ret (.bool mm) w')) := Lib.hid (fun w' hg => by rw [hmm]; exact meets_any (.slice a n c) L ⟨lx, ly, hx, hy⟩ w' (HJ.out.grows hg).2.2.2.1 HL3.out)
      have H5 : Hid (∀ w', Grows wr w' → Calls Try.prog 18 #[.slice aO n co, .agg #[.int .i64 lx, .int .i64 ly, .int .i64 hx, .int .i64 hy]] w' (Ret (.bool mm) w')) := Lib.hid (fun w' hg => by
        rw [hmm, ← rmeets_eq]
        exact rmeets_of (Lib.hid fun px py qx qy b w h1 h2 h3 h4 => inside_any px py qx qy b w h1 h2 h3 h4) (.slice aO n co) L ⟨lx, ly, hx, hy⟩ w' (HJ.out.grows hg).2.2.2.2 HL3.out)
      have H6 : Hid (∀ w', Grows wr w' → Calls Try.prog 14 #[.slice a n c, .agg #[.int .i64 lx, .int .i64 ly, .int .i64 hx, .int .i64 hy]] w' (fun e w'' => ∃ v, e = .returned v ∧ RowsAt w'' v PS ∧ Grows w' w'')) := Lib.hid (fun w' hg => by rw [hPS]; exact parts_rows (.slice a n c) L ⟨lx, ly, hx, hy⟩ w' (HJ.out.grows hg).2.2.2.1 HL3.out)
      have H7 : Hid (∀ w', Grows wr w' → Calls Try.prog 15 #[.slice aO n co, .agg #[.int .i64 lx, .int .i64 ly, .int .i64 hx, .int .i64 hy]] w' (fun e w'' => ∃ v, e = .returned v ∧ RowsAt w'' v PS ∧ Grows w' w'')) := Lib.hid (fun w' hg => by rw [hPS]; exact rparts_any (.slice aO n co) L ⟨lx, ly, hx, hy⟩ w' (HJ.out.grows hg).2.2.2.2 HL3.out)
      have HPL : Hid (PS.length ≤ 1000) := Lib.hid (by rw [hPS, List.length_map]; exact Nat.le_trans (parts_len _ _) HL3.out)
      have HPR : Hid (∀ q ∈ PS, q.length ≤ 1000) := Lib.hid (fun q hq => by
        rw [hPS] at hq
        obtain ⟨p, _, rfl⟩ := List.mem_map.1 hq
        exact Nat.le_trans (prow_le _ _) HL3.out)
      have CF : Hid (∀ w', Grows wr w' → _) := Lib.hid (fun w' hg => And.intro (cells4 (HJ.out.grows hg).2.1) (cells4 (HJ.out.grows hg).2.2.1))
      have HJG : Hid (Grows w wr) := Lib.hid HJ.out.1
      clear hmm hPS hend hk HCN
      go_wp2_with fail
      refine wp_region_tab 26 (by kernel_rfl) (by kernel_rfl) ?_
      intro w0 hw0 hg1 hg1'
      simp only [List.take_succ_cons, List.take_zero, List.drop_succ_cons, List.drop_zero]
      refine tab_call (v := .bool true) (fun w1 hg => kn_any w1) (fun r w1 hr hg hA => by exact ⟨rfl, by simp [go_sem, hr.func]⟩) ?_
      refine tab_val (.bool true) (fun r w1 hr hg hA => by obtain ⟨⟨_, q0⟩, -⟩ := hA; have q0e : r (.tmp 49) = .bool true := q0; exact ⟨rfl, by simp [go_sem, q0e]⟩) ?_
      refine tab_val (.slice a n c) (fun r w1 hr hg hA => by obtain ⟨q0, ⟨_, q1⟩, -⟩ := hA; have q0e : r (.tmp 0) = .slice a n c := q0; have q1e : r (.tmp 50) = .bool true := q1; exact ⟨⟨_, q1e, rfl⟩, by simp [go_sem, q0e]⟩) ?_
      refine tab_val (.agg #[.int .i64 lx, .int .i64 ly, .int .i64 hx, .int .i64 hy]) (fun r w1 hr hg hA => by obtain ⟨q0, ⟨_, q1⟩, -⟩ := hA; have q0e : r (.tmp 3) = .pointer (some ⟨w.heap.size, 0, none⟩) := q0; have q1e : r (.tmp 50) = .bool true := q1; have hc := CF.out w1 (hg1.trans hg); exact ⟨⟨_, q1e, rfl⟩, by simp [go_sem, q0e, hc]⟩) ?_
      refine tab_callQ (f := 14) (fun v w => RowsAt w v PS) (fun v w w' h hg => h.grows hg) (fun r w1 hr hg hA => by obtain ⟨⟨_, q0⟩, ⟨_, q1⟩, ⟨_, q2⟩, -⟩ := hA; have q0e : r (.tmp 51) = .slice a n c := q0; have q1e : r (.tmp 52) = .agg #[.int .i64 lx, .int .i64 ly, .int .i64 hx, .int .i64 hy] := q1; have q2e : r (.tmp 50) = .bool true := q2; exact ⟨⟨_, q2e, rfl⟩, #[.slice a n c, .agg #[.int .i64 lx, .int .i64 ly, .int .i64 hx, .int .i64 hy]], by simp [go_sem, hr.func, q0e, q1e], H6.out w1 (hg1.trans hg)⟩) ?_
      refine tab_val (.slice aO n co) (fun r w1 hr hg hA => by obtain ⟨q0, ⟨_, q1⟩, -⟩ := hA; have q0e : r (.tmp 5) = .slice aO n co := q0; have q1e : r (.tmp 50) = .bool true := q1; exact ⟨⟨_, q1e, rfl⟩, by simp [go_sem, q0e]⟩) ?_
      refine tab_val (.agg #[.int .i64 lx, .int .i64 ly, .int .i64 hx, .int .i64 hy]) (fun r w1 hr hg hA => by obtain ⟨q0, ⟨_, q1⟩, -⟩ := hA; have q0e : r (.tmp 6) = .pointer (some ⟨b6, 0, none⟩) := q0; have q1e : r (.tmp 50) = .bool true := q1; have hc := CF.out w1 (hg1.trans hg); exact ⟨⟨_, q1e, rfl⟩, by simp [go_sem, q0e, hc]⟩) ?_
      refine tab_callQ (f := 15) (fun v w => RowsAt w v PS) (fun v w w' h hg => h.grows hg) (fun r w1 hr hg hA => by obtain ⟨⟨_, q0⟩, ⟨_, q1⟩, ⟨_, q2⟩, -⟩ := hA; have q0e : r (.tmp 54) = .slice aO n co := q0; have q1e : r (.tmp 55) = .agg #[.int .i64 lx, .int .i64 ly, .int .i64 hx, .int .i64 hy] := q1; have q2e : r (.tmp 50) = .bool true := q2; exact ⟨⟨_, q2e, rfl⟩, #[.slice aO n co, .agg #[.int .i64 lx, .int .i64 ly, .int .i64 hx, .int .i64 hy]], by simp [go_sem, hr.func, q0e, q1e], H7.out w1 (hg1.trans hg)⟩) ?_
      refine tab_callP (f := 13) (v := .bool true) (fun r w1 hr hg hA => by obtain ⟨⟨_, q0⟩, ⟨_, q1⟩, ⟨_, q2⟩, -⟩ := hA; have q2e : r (.tmp 50) = .bool true := q2; exact ⟨⟨_, q2e, rfl⟩, #[r (.tmp 53), r (.tmp 56)], by simp [go_sem, hr.func], same22_true _ _ PS w1 q0 q1 HPL.out HPR.out⟩) ?_
      refine tab_val (.bool true) (fun r w1 hr hg hA => by obtain ⟨⟨_, q0⟩, ⟨_, q1⟩, -⟩ := hA; have q0e : r (.tmp 50) = .bool true := q0; have q1e : r (.tmp 57) = .bool true := q1; exact ⟨rfl, by simp [go_sem, q0e, q1e]⟩) ?_
      refine tab_val (.bool true) (fun r w1 hr hg hA => by obtain ⟨⟨_, q0⟩, -⟩ := hA; have q0e : r (.tmp 58) = .bool true := q0; exact ⟨rfl, by simp [go_sem, q0e]⟩) ?_
      refine tab_val (.slice a n c) (fun r w1 hr hg hA => by obtain ⟨q0, ⟨_, q1⟩, -⟩ := hA; have q0e : r (.tmp 0) = .slice a n c := q0; have q1e : r (.tmp 59) = .bool true := q1; exact ⟨⟨_, q1e, rfl⟩, by simp [go_sem, q0e]⟩) ?_
      refine tab_val (.agg #[.int .i64 lx, .int .i64 ly, .int .i64 hx, .int .i64 hy]) (fun r w1 hr hg hA => by obtain ⟨q0, ⟨_, q1⟩, -⟩ := hA; have q0e : r (.tmp 3) = .pointer (some ⟨w.heap.size, 0, none⟩) := q0; have q1e : r (.tmp 59) = .bool true := q1; have hc := CF.out w1 (hg1.trans hg); exact ⟨⟨_, q1e, rfl⟩, by simp [go_sem, q0e, hc]⟩) ?_
      refine tab_call (v := .int .i64 (cN : Int)) (fun w1 hg => H3.out w1 (hg1.trans hg)) (fun r w1 hr hg hA => by obtain ⟨⟨_, q0⟩, ⟨_, q1⟩, ⟨_, q2⟩, -⟩ := hA; have q0e : r (.tmp 60) = .slice a n c := q0; have q1e : r (.tmp 61) = .agg #[.int .i64 lx, .int .i64 ly, .int .i64 hx, .int .i64 hy] := q1; have q2e : r (.tmp 59) = .bool true := q2; exact ⟨⟨_, q2e, rfl⟩, by simp [go_sem, hr.func, q0e, q1e]⟩) ?_
      refine tab_val (.int .i64 (cN : Int)) (fun r w1 hr hg hA => by obtain ⟨q0, ⟨_, q1⟩, -⟩ := hA; have q0e : r (.tmp 7) = .int .i64 (cN : Int) := q0; have q1e : r (.tmp 59) = .bool true := q1; exact ⟨⟨_, q1e, rfl⟩, by simp [go_sem, q0e]⟩) ?_
      refine tab_val (.bool true) (fun r w1 hr hg hA => by obtain ⟨⟨_, q0⟩, ⟨_, q1⟩, ⟨_, q2⟩, -⟩ := hA; have q0e : r (.tmp 62) = .int .i64 (cN : Int) := q0; have q1e : r (.tmp 63) = .int .i64 (cN : Int) := q1; have q2e : r (.tmp 59) = .bool true := q2; exact ⟨⟨_, q2e, rfl⟩, by simp [go_sem, q0e, q1e]⟩) ?_
      refine tab_val (.bool true) (fun r w1 hr hg hA => by obtain ⟨⟨_, q0⟩, ⟨_, q1⟩, -⟩ := hA; have q0e : r (.tmp 59) = .bool true := q0; have q1e : r (.tmp 64) = .bool true := q1; exact ⟨rfl, by simp [go_sem, q0e, q1e]⟩) ?_
      refine tab_val (.bool true) (fun r w1 hr hg hA => by obtain ⟨⟨_, q0⟩, -⟩ := hA; have q0e : r (.tmp 65) = .bool true := q0; exact ⟨rfl, by simp [go_sem, q0e]⟩) ?_
      refine tab_val (.slice a n c) (fun r w1 hr hg hA => by obtain ⟨q0, ⟨_, q1⟩, -⟩ := hA; have q0e : r (.tmp 0) = .slice a n c := q0; have q1e : r (.tmp 66) = .bool true := q1; exact ⟨⟨_, q1e, rfl⟩, by simp [go_sem, q0e]⟩) ?_
      refine tab_val (.agg #[.int .i64 lx, .int .i64 ly, .int .i64 hx, .int .i64 hy]) (fun r w1 hr hg hA => by obtain ⟨q0, ⟨_, q1⟩, -⟩ := hA; have q0e : r (.tmp 3) = .pointer (some ⟨w.heap.size, 0, none⟩) := q0; have q1e : r (.tmp 66) = .bool true := q1; have hc := CF.out w1 (hg1.trans hg); exact ⟨⟨_, q1e, rfl⟩, by simp [go_sem, q0e, hc]⟩) ?_
      refine tab_call (v := .bool mm) (fun w1 hg => H4.out w1 (hg1.trans hg)) (fun r w1 hr hg hA => by obtain ⟨⟨_, q0⟩, ⟨_, q1⟩, ⟨_, q2⟩, -⟩ := hA; have q0e : r (.tmp 67) = .slice a n c := q0; have q1e : r (.tmp 68) = .agg #[.int .i64 lx, .int .i64 ly, .int .i64 hx, .int .i64 hy] := q1; have q2e : r (.tmp 66) = .bool true := q2; exact ⟨⟨_, q2e, rfl⟩, by simp [go_sem, hr.func, q0e, q1e]⟩) ?_
      refine tab_val (.slice aO n co) (fun r w1 hr hg hA => by obtain ⟨q0, ⟨_, q1⟩, -⟩ := hA; have q0e : r (.tmp 5) = .slice aO n co := q0; have q1e : r (.tmp 66) = .bool true := q1; exact ⟨⟨_, q1e, rfl⟩, by simp [go_sem, q0e]⟩) ?_
      refine tab_val (.agg #[.int .i64 lx, .int .i64 ly, .int .i64 hx, .int .i64 hy]) (fun r w1 hr hg hA => by obtain ⟨q0, ⟨_, q1⟩, -⟩ := hA; have q0e : r (.tmp 6) = .pointer (some ⟨b6, 0, none⟩) := q0; have q1e : r (.tmp 66) = .bool true := q1; have hc := CF.out w1 (hg1.trans hg); exact ⟨⟨_, q1e, rfl⟩, by simp [go_sem, q0e, hc]⟩) ?_
      refine tab_call (v := .bool mm) (fun w1 hg => H5.out w1 (hg1.trans hg)) (fun r w1 hr hg hA => by obtain ⟨⟨_, q0⟩, ⟨_, q1⟩, ⟨_, q2⟩, -⟩ := hA; have q0e : r (.tmp 70) = .slice aO n co := q0; have q1e : r (.tmp 71) = .agg #[.int .i64 lx, .int .i64 ly, .int .i64 hx, .int .i64 hy] := q1; have q2e : r (.tmp 66) = .bool true := q2; exact ⟨⟨_, q2e, rfl⟩, by simp [go_sem, hr.func, q0e, q1e]⟩) ?_
      refine tab_val (.bool true) (fun r w1 hr hg hA => by obtain ⟨⟨_, q0⟩, ⟨_, q1⟩, ⟨_, q2⟩, -⟩ := hA; have q0e : r (.tmp 69) = .bool mm := q0; have q1e : r (.tmp 72) = .bool mm := q1; have q2e : r (.tmp 66) = .bool true := q2; exact ⟨⟨_, q2e, rfl⟩, by simp [go_sem, q0e, q1e]⟩) ?_
      refine tab_val (.bool true) (fun r w1 hr hg hA => by obtain ⟨⟨_, q0⟩, ⟨_, q1⟩, -⟩ := hA; have q0e : r (.tmp 66) = .bool true := q0; have q1e : r (.tmp 73) = .bool true := q1; exact ⟨rfl, by simp [go_sem, q0e, q1e]⟩) ?_
      refine tab_end ?_
      simp only [List.reverse_cons, List.reverse_nil, List.nil_append, List.cons_append, Out, BlockP, forall_eq, forall_const, Act.put, List.setIfInBounds_toArray, List.set_cons_succ, List.set_cons_zero]
      intro wF hgF
      have GF : Hid (Grows w wF) := Lib.hid (HJG.out.trans (hg1.trans hgF))
      clear hg1 hgF hg1' hw0
      intro v53 h53 v56 h56
      clear h53 h56
      go_wp2
      go_ret
      exact ⟨rfl, GF.out⟩
end Go.Proofs.Ytlkihbehiojimaa
