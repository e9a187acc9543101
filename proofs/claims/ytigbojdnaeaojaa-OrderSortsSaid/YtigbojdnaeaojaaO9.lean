/-
  Layer 4: Find, Strips, Common.
-/
import Derived.Test.YtigbojdnaeaojaaO8
namespace Go.Proofs.Ytigbojdnaeaojaa
open Go.RowKit Go.Tab

theorem boxS {w w1 : World} {x y : Value} {T1 T2 : TypeId} (h : Grows ((w.alloc (.cells #[x] T1)).alloc (.cells #[y] T2)) w1) :
    w1.cell? ⟨w.heap.size, 0, none⟩ = some x ∧ w1.cell? ⟨w.heap.size + 1, 0, none⟩ = some y := by
  have h1 : ((w.alloc (.cells #[x] T1)).alloc (.cells #[y] T2)).heap[w.heap.size]? = some (.cells #[x] T1 (0, 0)) := by
    rw [show (World.alloc _ _).heap[_]? = _ from Below.heap_alloc _ _ _ (by simp only [World.size_alloc]; omega)]
    exact heap_new _ _ _ (by simp only [World.size_alloc])
  have h2 : ((w.alloc (.cells #[x] T1)).alloc (.cells #[y] T2)).heap[w.heap.size + 1]? = some (.cells #[y] T2 (0, 0)) := by
    exact heap_new _ _ _ (by simp only [World.size_alloc])
  have k1 := Grows.block h h1
  have k2 := Grows.block h h2
  exact ⟨by simp [World.cell?, k1], by simp [World.cell?, k2]⟩

theorem hasF_true {n : Int} {l : List Int} (h : lowF n l < l.length) : hasF n l = (l.getD (lowF n l) 0 == n) := by
  unfold hasF
  rw [getD_some l _ h]
  simp [Bool.beq_eq_decide_eq]
theorem hasF_false {n : Int} {l : List Int} (h : ¬ lowF n l < l.length) : hasF n l = false := by
  unfold hasF
  rw [List.getElem?_eq_none (by omega)]
  simp

set_option maxRecDepth 100000 in
set_option maxHeartbeats 1000000 in
theorem find_any (v : Value) (l : List Int) (n : Int) (w : World) (hp : IntsAt w v l) (hl : l.length ≤ 1000000) (hu : Up l) :
    Calls Try.prog 20 #[v, iv n] w (Ret (.tuple #[iv (lowF n l), .bool (hasF n l)]) w) := by
  have hmf : ∀ (fn : Fn) (first cap : Array Value) (w : World), (Instr.makeFunc fn first cap).run Try.prog w = .ok (.func fn first cap) w := fun _ _ _ _ => rfl
  obtain ⟨a, cap, rfl, hc, hz⟩ := hp.shape
  have HF : Hid (∀ w', Grows ((w.alloc (.cells #[.slice a l.length cap] 24)).alloc (.cells #[iv n] 3)) w' → Calls Try.prog 36 #[iv l.length, .func (.func 37) #[] #[.pointer (some ⟨w.heap.size, 0, none⟩), .pointer (some ⟨w.heap.size + 1, 0, none⟩)]] w' (Ret (iv (lowF n l)) w')) := Lib.hid fun w' hg => by
    refine first_row 37 (fun y => decide (n ≤ y)) a l.length cap w.heap.size (lowF n l) l w' (hp.grows ((((Grows.refl w).al _).al _).trans hg)) rfl (by omega) (low_le n l) (fun i hi => decide_eq_false (Int.not_le.2 (low_before hi))) (fun i h1 h2 => decide_eq_true (low_behind hu h1 h2)) (fun _ _ => rfl) fun b off x i w2 hg2 ha hi hx => ?_
    subst ha
    obtain ⟨k1, k2⟩ := boxS (hg.trans hg2)
    exact find1_any b off l.length cap w.heap.size n x i w2 hi k1 k2 hx
  have HP := Lib.hid hp
  have LO := low_le n l
  have HT := Lib.hid (hasF_true (n := n) (l := l))
  have HFs := Lib.hid (hasF_false (n := n) (l := l))
  generalize lowF n l = r at HF LO HT HFs
  generalize hasF n l = q at HT HFs
  clear hp hu
  generalize hn : l.length = len at HF LO HT HFs hl hc
  have Hn := Lib.hid hn
  clear hn
  go_enter Try.func20, Try.ntmps20
  go_wp2_with fail
  refine (HF.out _ (Grows.refl _)).mono ?_
  rintro _ w1 ⟨rfl, hg⟩
  have G := Lib.hid ((((Grows.refl w).al _).al _).trans hg)
  obtain ⟨k1, k2⟩ := boxS hg
  clear hg HF
  by_cases hr : r < len
  · obtain ⟨b, off, rfl, hb, hx⟩ := (HP.out.grows G.out).at_ (i := r) (by rw [Hn.out]; exact hr)
    have hq := HT.out hr
    generalize l.getD r 0 = x at hx hq
    subst hq
    clear HT HFs
    go_wp2_with fail
    go_quiet (fail)
    go_wp2
    go_ret2
    exact ⟨rfl, G.out.trans ⟨rfl, rfl, rfl, Nat.le_refl _, fun _ _ => rfl⟩⟩
  · have hq := HFs.out hr
    subst hq
    clear HT HFs
    go_wp2_with fail
    go_quiet (fail)
    go_wp2
    go_ret2
    exact ⟨rfl, G.out.trans ⟨rfl, rfl, rfl, Nat.le_refl _, fun _ _ => rfl⟩⟩

set_option maxRecDepth 100000 in
set_option maxHeartbeats 1000000 in
theorem strips_any (v : Value) (l : List Int) (n : Int) (w : World) (hp : IntsAt w v l) (hl : l.length ≤ 1000000) (hu : Up l) :
    Calls Try.prog 22 #[v, iv n] w (Ret (.tuple #[iv (lowF n l), iv (uppF n l)]) w) := by
  have hmf : ∀ (fn : Fn) (first cap : Array Value) (w : World), (Instr.makeFunc fn first cap).run Try.prog w = .ok (.func fn first cap) w := fun _ _ _ _ => rfl
  obtain ⟨a, cap, rfl, hc, hz⟩ := hp.shape
  have HF : Hid (∀ w', Grows ((w.alloc (.cells #[.slice a l.length cap] 24)).alloc (.cells #[iv n] 3)) w' → Calls Try.prog 36 #[iv l.length, .func (.func 38) #[] #[.pointer (some ⟨w.heap.size, 0, none⟩), .pointer (some ⟨w.heap.size + 1, 0, none⟩)]] w' (Ret (iv (lowF n l)) w')) := Lib.hid fun w' hg => by
    refine first_row 38 (fun y => decide (n ≤ y)) a l.length cap w.heap.size (lowF n l) l w' (hp.grows ((((Grows.refl w).al _).al _).trans hg)) rfl (by omega) (low_le n l) (fun i hi => decide_eq_false (Int.not_le.2 (low_before hi))) (fun i h1 h2 => decide_eq_true (low_behind hu h1 h2)) (fun _ _ => rfl) fun b off x i w2 hg2 ha hi hx => ?_
    subst ha
    obtain ⟨k1, k2⟩ := boxS (hg.trans hg2)
    exact strips1_any b off l.length cap w.heap.size n x i w2 hi k1 k2 hx
  have HG : Hid (∀ w', Grows ((w.alloc (.cells #[.slice a l.length cap] 24)).alloc (.cells #[iv n] 3)) w' → Calls Try.prog 36 #[iv l.length, .func (.func 39) #[] #[.pointer (some ⟨w.heap.size, 0, none⟩), .pointer (some ⟨w.heap.size + 1, 0, none⟩)]] w' (Ret (iv (uppF n l)) w')) := Lib.hid fun w' hg => by
    refine first_row 39 (fun y => decide (n < y)) a l.length cap w.heap.size (uppF n l) l w' (hp.grows ((((Grows.refl w).al _).al _).trans hg)) rfl (by omega) (upp_le n l) (fun i hi => decide_eq_false (Int.not_lt.2 (upp_before hi))) (fun i h1 h2 => decide_eq_true (upp_behind hu h1 h2)) (fun _ _ => rfl) fun b off x i w2 hg2 ha hi hx => ?_
    subst ha
    obtain ⟨k1, k2⟩ := boxS (hg.trans hg2)
    exact strips2_any b off l.length cap w.heap.size n x i w2 hi k1 k2 hx
  generalize lowF n l = r at HF ⊢
  generalize uppF n l = s at HG ⊢
  clear hp hu
  generalize l.length = len at HF HG hl hc
  go_enter Try.func22, Try.ntmps22
  go_wp2_with fail
  refine wp_region_tab 8 (by kernel_rfl) (by kernel_rfl) ?_
  intro w0 hw0 hg1 hg1'
  simp only [List.take_succ_cons, List.take_zero, List.drop_succ_cons, List.drop_zero]
  refine tab_val (.slice a len cap) (fun r w1 hr hg hA => by obtain ⟨q0, -⟩ := hA; have q0e : r (.tmp 2) = .pointer (some ⟨w.heap.size, 0, none⟩) := q0; have hc := boxS (hg1.trans hg); exact ⟨rfl, by simp [go_sem, q0e, hc]⟩) ?_
  refine tab_val (.int .i64 (len : Int)) (fun r w1 hr hg hA => by obtain ⟨⟨_, q0⟩, -⟩ := hA; have q0e : r (.tmp 6) = .slice a len cap := q0; exact ⟨rfl, by simp [go_sem, q0e]⟩) ?_
  refine tab_val (.func (.func 38) #[] #[.pointer (some ⟨w.heap.size, 0, none⟩), .pointer (some ⟨w.heap.size + 1, 0, none⟩)]) (fun r w1 hr hg hA => by obtain ⟨q0, q1, -⟩ := hA; have q0e : r (.tmp 2) = .pointer (some ⟨w.heap.size, 0, none⟩) := q0; have q1e : r (.tmp 3) = .pointer (some ⟨w.heap.size + 1, 0, none⟩) := q1; exact ⟨rfl, by simp [go_sem, q0e, q1e, hmf]⟩) ?_
  refine tab_call (v := iv (r : Int)) (fun w1 hg => HF.out w1 (hg1.trans hg)) (fun r w1 hr hg hA => by obtain ⟨⟨_, q0⟩, ⟨_, q1⟩, -⟩ := hA; have q0e : r (.tmp 7) = .int .i64 (len : Int) := q0; have q1e : r (.tmp 8) = .func (.func 38) #[] #[.pointer (some ⟨w.heap.size, 0, none⟩), .pointer (some ⟨w.heap.size + 1, 0, none⟩)] := q1; exact ⟨rfl, by simp [go_sem, hr.func, q0e, q1e]⟩) ?_
  refine tab_val (.slice a len cap) (fun r w1 hr hg hA => by obtain ⟨q0, -⟩ := hA; have q0e : r (.tmp 2) = .pointer (some ⟨w.heap.size, 0, none⟩) := q0; have hc := boxS (hg1.trans hg); exact ⟨rfl, by simp [go_sem, q0e, hc]⟩) ?_
  refine tab_val (.int .i64 (len : Int)) (fun r w1 hr hg hA => by obtain ⟨⟨_, q0⟩, -⟩ := hA; have q0e : r (.tmp 10) = .slice a len cap := q0; exact ⟨rfl, by simp [go_sem, q0e]⟩) ?_
  refine tab_val (.func (.func 39) #[] #[.pointer (some ⟨w.heap.size, 0, none⟩), .pointer (some ⟨w.heap.size + 1, 0, none⟩)]) (fun r w1 hr hg hA => by obtain ⟨q0, q1, -⟩ := hA; have q0e : r (.tmp 2) = .pointer (some ⟨w.heap.size, 0, none⟩) := q0; have q1e : r (.tmp 3) = .pointer (some ⟨w.heap.size + 1, 0, none⟩) := q1; exact ⟨rfl, by simp [go_sem, q0e, q1e, hmf]⟩) ?_
  refine tab_call (v := iv (s : Int)) (fun w1 hg => HG.out w1 (hg1.trans hg)) (fun r w1 hr hg hA => by obtain ⟨⟨_, q0⟩, ⟨_, q1⟩, -⟩ := hA; have q0e : r (.tmp 11) = .int .i64 (len : Int) := q0; have q1e : r (.tmp 12) = .func (.func 39) #[] #[.pointer (some ⟨w.heap.size, 0, none⟩), .pointer (some ⟨w.heap.size + 1, 0, none⟩)] := q1; exact ⟨rfl, by simp [go_sem, hr.func, q0e, q1e]⟩) ?_
  refine tab_end ?_
  simp only [List.reverse_cons, List.reverse_nil, List.nil_append, List.cons_append, Out, BlockP, forall_eq, forall_const, Act.put, List.setIfInBounds_toArray, List.set_cons_succ, List.set_cons_zero]
  intro wA hgA
  have GA := Lib.hid ((((Grows.refl w).al _).al _).trans (hg1.trans hgA))
  clear hg1 hgA hg1' hw0
  go_wp2
  go_ret2
  exact ⟨rfl, GA.out⟩

def commonF (l : List Int) (a b : Int) : Bool := decide (lowF a l ≤ uppF b l) && decide (lowF b l ≤ uppF a l)
set_option maxHeartbeats 1000000 in
theorem common_any (v : Value) (l : List Int) (a b : Int) (w : World) (hp : IntsAt w v l) (hl : l.length ≤ 1000000) (hu : Up l) :
    Calls Try.prog 24 #[v, iv a, iv b] w (Ret (.bool (commonF l a b)) w) := by
  have S1 := Lib.hid (strips_any v l a w hp hl hu)
  have S2 := Lib.hid (fun w' (hg : Grows w w') => strips_any v l b w' (hp.grows hg) hl hu)
  unfold commonF
  generalize lowF a l = p at S1 ⊢
  generalize uppF a l = q at S1 ⊢
  generalize lowF b l = r at S2 ⊢
  generalize uppF b l = s at S2 ⊢
  clear hp hu
  go_enter Try.func24, Try.ntmps24
  go_wp2_with fail
  refine S1.out.mono ?_
  rintro _ w1 ⟨rfl, hg⟩
  have G1 := Lib.hid hg
  clear hg
  go_wp2_with fail
  refine (S2.out _ G1.out).mono ?_
  rintro _ w2 ⟨rfl, hg⟩
  have G2 := Lib.hid (G1.out.trans hg)
  clear hg G1 S1 S2
  by_cases h1 : (p : Int) ≤ s
  · by_cases h2 : (r : Int) ≤ q
    · go_wp2
      go_ret
      exact ⟨ret_bool (by simp; omega), G2.out⟩
    · go_wp2
      go_ret
      exact ⟨ret_bool (by simp; omega), G2.out⟩
  · go_wp2
    go_ret
    exact ⟨ret_bool (by simp; omega), G2.out⟩
end Go.Proofs.Ytigbojdnaeaojaa
