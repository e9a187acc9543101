/-
  Layer 5: the law on what comes out rising.
-/
import Derived.Test.YtcmlcoedgfehgaaH15
import Derived.IntWalk
namespace Go.Proofs.Ytcmlcoedgfehgaa
open Go.RowKit Go.Tab Go.WideShapes

/-- Are two entries the same? -/
def beqE (a b : Ent3) : Bool := decide (a = b)
theorem beqE_yes {a b : Ent3} (h : a = b) : beqE a b = true := decide_eq_true h
theorem beqE_no {a b : Ent3} (h : ¬ a = b) : beqE a b = false := decide_eq_false h
theorem eqIf {w : World} {a1 a2 a3 b1 b2 b3 : Int} : (if a1 = b1 then if a2 = b2 then if a3 = b3 then Result.ok (Next.value (Value.bool true)) w else Result.ok (Next.value (Value.bool false)) w else Result.ok (Next.value (Value.bool false)) w else Result.ok (Next.value (Value.bool false)) w) = Result.ok (Next.value (Value.bool (beqE (a1, a2, a3) (b1, b2, b3)))) w := by
  unfold beqE
  by_cases h1 : a1 = b1 <;> by_cases h2 : a2 = b2 <;> by_cases h3 : a3 = b3 <;> simp [h1, h2, h3]
theorem cntE_succ (e : Ent3) (l : List Ent3) (t : Nat) (h : t < l.length) : (l.take (t + 1)).count e = (l.take t).count e + if l.getD t e0 = e then 1 else 0 := by
  rw [take_succ_getD l t h, List.count_append]
  congr 1
  rw [List.count_singleton]
  by_cases h : l.getD t e0 = e <;> simp [h]
theorem drewG {w : World} {n : Nat} : Grows w (w.drewN n) := ⟨rfl, rfl, rfl, Nat.le_refl _, fun _ _ => rfl⟩

set_option maxRecDepth 100000 in
set_option maxHeartbeats 8000000 in
theorem law_rises (L : List Ent3) (a : Option Addr) (n c ll : Nat) (w : World) (hll : ll = min n 100) (hnc : n ≤ c) (hc : c ≤ 9223372036854775807) (HL : Hid (L.length = ll)) (E : Hid (EntsAt w (.slice a ll c) L)) :
    Calls Try.prog 4 #[.slice a n c] w (Ret (.bool true) w) := by
  have m1 : (if (100 : Int) < (n : Int) then (100 : Int) else (n : Int)) = (ll : Int) := by omega
  have b1 : ll ≤ c := by omega
  have hl100 : ll ≤ 100 := by omega
  have H0 : Hid (HeapAt (w.alloc (.cells #[.slice none 0 0] 27)) w.heap.size w.heap.size (.slice none 0 0) []) := Lib.hid
    ⟨heap_new _ _ _ rfl, ⟨rfl, .inl ⟨rfl, rfl⟩⟩, (fun h => by cases h), by simp only [World.size_alloc]; omega⟩
  have HF : Hid (Far (.slice a ll c) L w.heap.size (.slice none 0 0)) := Lib.hid (E.out.far fun b hb _ => ⟨by omega, fun h => by cases h⟩)
  clear hll
  go_enter Try.func4, Try.ntmps4
  go_wp2_with fail
  refine (push_heap H0.out _ L (E.out.grows ((Grows.refl w).al _)) HF.out (by rw [HL.out]; simp only [List.length_nil]; omega)).mono ?_
  rintro _ w1 ⟨rfl, v1, h1, s1⟩
  have H1 := Lib.hid h1
  have G1 : Hid (Grows w w1) := Lib.hid (s1.below ((Grows.refl w).al _) (Nat.le_refl _) (fun g hg => by cases hg))
  have HP : Hid (Heap (pushF [] L)) := Lib.hid (push_heapF heap_nil L)
  have HS : Hid (srtE (pushF [] L) = srtE L) := Lib.hid (by
    have := push_perm [] L
    rw [List.append_nil] at this
    exact srtE_unique (srtE_rises _) ((srtE_perm _).trans this))
  have HLn : Hid ((pushF [] L).length = ll) := Lib.hid (by rw [pushF_len, HL.out]; simp)
  have E1 := Lib.hid (E.out.grows G1.out)
  clear h1 s1 H0 HF
  go_wp2_with fail
  refine (sort_any _ L _ E1.out (by rw [HL.out]; omega)).mono ?_
  rintro _ w2 ⟨v', rfl, hown, hg⟩
  have SE := Lib.hid (own_ents hown rfl (by rw [srtE_len, HL.out]; omega))
  have SO : Hid (∀ g, v'.ownBlock = some g → w1.heap.size ≤ g) := Lib.hid fun g hg => (own_lt hown hg).1
  have SL : Hid ((srtE L).length = ll) := Lib.hid (by rw [srtE_len, HL.out])
  have SR := Lib.hid (srtE_rises L)
  have SC := Lib.hid (fun e => (srtE_perm L).count_eq e)
  obtain ⟨sa, cs, rfl, hcs, _⟩ := SE.out.shape
  rw [SL.out] at SE SO ⊢
  have H2 := Lib.hid (H1.out.grows hg)
  have G2 := Lib.hid (G1.out.trans hg)
  have HV2 : Hid (∀ g, sa.map Addr.block = some g → g ≠ w.heap.size ∧ v1.ownBlock ≠ some g) := Lib.hid fun g he => by
    have h1 : w1.heap.size ≤ g := SO.out g (by cases sa with | none => cases he | some p => exact he)
    have := H1.out.lt
    exact ⟨by omega, fun hv => by have := (own_lt H1.out.own hv).2; omega⟩
  clear hown hg G1 E1 SO H1
  have hLe : decide ((ll : Int) = (ll : Int)) = true := by simp
  go_wp2
  go_loopw [5] (fun i wr => ∃ (k : Nat) (L' : List Ent3) (v' : Value), i = iv k ∧ k + L'.length = ll ∧ srtE L' = (srtE L).drop k ∧ Heap L' ∧ HeapAt wr w.heap.size w.heap.size v' L' ∧ (∀ g, sa.map Addr.block = some g → g ≠ w.heap.size ∧ v'.ownBlock ≠ some g) ∧ EntsAt wr (.slice sa ll cs) (srtE L) ∧ Grows w wr) (fun i _ => 101 - (intOf i).toNat)
  case atStart => exact ⟨0, pushF [] L, v1, rfl, by rw [HLn.out]; simp, by rw [List.drop_zero]; exact HS.out, HP.out, H2.out, HV2.out, SE.out, G2.out⟩
  case round =>
    clear HP HS HLn H2 G2 HV2 SE
    obtain ⟨i, L', v', rfl, hiL, hsrt, hheap, hat, hfar, hse, hg⟩ := hrel
    have HSR := Lib.hid hsrt
    have HH := Lib.hid hheap
    have HA := Lib.hid hat
    have HFA := Lib.hid hfar
    have HE := Lib.hid hse
    have G := Lib.hid hg
    clear hsrt hheap hat hfar hse hg
    by_cases hil : i < ll
    · have hL : 0 < L'.length := by omega
      have HV := Lib.hid (srtE_heap HH.out hL)
      have HT : Hid (topV L' = .tuple #[en (ge L' 0), .bool true]) := Lib.hid (by unfold topV; rw [decide_eq_true hL])
      have HG0 : Hid (ge L' 0 = (srtE L).getD i e0) := Lib.hid (by
        have h1 := HSR.out
        rw [HV.out] at h1
        have h2 := congrArg (fun l : List Ent3 => l.head?) h1
        simp only [List.head?_cons, List.head?_drop] at h2
        rw [List.getD_eq_getElem?_getD, ← h2]; rfl)
      go_wp2_with fail
      refine (pop_heap HA.out (by omega)).mono ?_
      rintro _ w3 ⟨rfl, v3, h3, s3⟩
      rw [HT.out]
      have HL3 : Hid ((popF L').length + 1 = L'.length) := Lib.hid (by have := (pop_perm hL).length_eq; rw [List.length_cons] at this; exact this)
      have H3 := Lib.hid h3
      have HF3 : Hid (∀ g, sa.map Addr.block = some g → g ≠ w.heap.size ∧ v3.ownBlock ≠ some g) := Lib.hid fun g hg => ⟨(HFA.out g hg).1, fun he => by
        rcases s3.row with hr | hr
        · exact (HFA.out g hg).2 (hr ▸ he)
        · have := hr g he
          obtain ⟨b, off, hab, hlt, _⟩ := HE.out.at_ (i := i) (by rw [SL.out]; exact hil)
          rw [hab] at hg
          have hgb : b = g := Option.some.inj hg
          omega⟩
      have G3 := Lib.hid (s3.below G.out (Nat.le_refl _) (fun g hg => (own_lt HA.out.own hg).1))
      have HP3 := Lib.hid (pop_heapF HH.out)
      have HE3 : Hid (EntsAt w3 (.slice sa ll cs) (srtE L)) := Lib.hid (HE.out.step s3 (.inr fun b hb => HFA.out b (by cases sa with | none => cases hb | some p => exact hb)))
      have HSR3 : Hid (srtE (popF L') = (srtE L).drop (i + 1)) := Lib.hid (by
        have h1 := HSR.out
        rw [HV.out] at h1
        have h2 := congrArg List.tail h1
        rw [List.tail_cons, List.tail_drop] at h2
        exact h2)
      rw [HG0.out]
      clear h3 s3 HA HFA G HH HT HV HSR HG0 HE
      obtain ⟨ex, hex⟩ : ∃ ex, ex = (srtE L).getD i e0 := ⟨_, rfl⟩
      rw [← hex]
      have HEX := Lib.hid hex
      clear hex
      obtain ⟨gs, os, rfl, hgs, _⟩ := HE3.out.at_ (i := i) (by rw [SL.out]; exact hil)
      obtain ⟨xa, xb, xc⟩ := ex
      have BX : Hid (∀ w', Grows (w3.alloc (.cells #[.int .i64 xa, .int .i64 xb, .int .i64 xc] 30)) w' → w'.cell? ⟨w3.heap.size, 0, none⟩ = some (.int .i64 xa) ∧ w'.cell? ⟨w3.heap.size, 1, none⟩ = some (.int .i64 xb) ∧ w'.cell? ⟨w3.heap.size, 2, none⟩ = some (.int .i64 xc)) := Lib.hid fun w1 hg1 => by
        obtain ⟨k1, k2, k3, _⟩ := cells3 (hg1.block (heap_new w3 (.cells #[.int .i64 xa, .int .i64 xb, .int .i64 xc] 30) _ rfl))
        exact ⟨k1, k2, k3⟩
      have HEi : Hid (∀ w', Grows (w3.alloc (.cells #[.int .i64 xa, .int .i64 xb, .int .i64 xc] 30)) w' → w'.cell? ⟨gs, os + i * 3, none⟩ = some (.int .i64 xa) ∧ w'.cell? ⟨gs, os + i * 3 + 1, none⟩ = some (.int .i64 xb) ∧ w'.cell? ⟨gs, os + i * 3 + 2, none⟩ = some (.int .i64 xc)) := Lib.hid fun w1 hg1 => by
        have := (HE3.out.grows (((Grows.refl w3).al _).trans hg1)).at_cell (i := i) (by rw [SL.out]; exact hil)
        rw [← HEX.out] at this
        exact this
      by_cases hi0 : 0 < i
      · obtain ⟨j, hj⟩ : ∃ j, j = i - 1 := ⟨_, rfl⟩
        have e1 : (i : Int) - 1 = (j : Int) := by omega
        have hjl : j < ll := by omega
        have e2 : IntKind.i64.wrap (j : Int) = (j : Int) := IntWalk.i64_in _ (by omega)
        obtain ⟨ep, hep⟩ : ∃ ep, ep = (srtE L).getD j e0 := ⟨_, rfl⟩
        have HLE : Hid (lessE (xa, xb, xc) ep = false) := Lib.hid (by
          have := List.pairwise_iff_getElem.1 SR.out j i (by rw [SL.out]; exact hjl) (by rw [SL.out]; exact hil) (by omega)
          have h1 : (srtE L)[i]'(by rw [SL.out]; exact hil) = (xa, xb, xc) := by rw [HEX.out, List.getD_eq_getElem?_getD, List.getElem?_eq_getElem]; rfl
          have h2 : (srtE L)[j]'(by rw [SL.out]; exact hjl) = ep := by rw [hep, List.getD_eq_getElem?_getD, List.getElem?_eq_getElem]; rfl
          rw [h1, h2] at this
          exact this)
        have HEj : Hid (∀ w', Grows (w3.alloc (.cells #[.int .i64 xa, .int .i64 xb, .int .i64 xc] 30)) w' → w'.cell? ⟨gs, os + j * 3, none⟩ = some (.int .i64 ep.1) ∧ w'.cell? ⟨gs, os + j * 3 + 1, none⟩ = some (.int .i64 ep.2.1) ∧ w'.cell? ⟨gs, os + j * 3 + 2, none⟩ = some (.int .i64 ep.2.2)) := Lib.hid fun w1 hg1 => by
          have := (HE3.out.grows (((Grows.refl w3).al _).trans hg1)).at_cell (i := j) (by rw [SL.out]; exact hjl)
          rw [← hep] at this
          exact this
        obtain ⟨pa, pb, pc⟩ := ep
        have HLS : Hid (∀ w1, Calls Try.prog 15 #[en (xa, xb, xc), en (pa, pb, pc)] w1 (Ret (.bool false) w1)) := Lib.hid fun w1 => by
          have := less_any (xa, xb, xc) (pa, pb, pc) w1
          rwa [HLE.out] at this
        clear hj hep HLE
        go_wp2_with fail
        refine wp_region_tab 26 (by kernel_rfl) (by kernel_rfl) ?_
        intro w0 hw0 hg1 hg1'
        simp only [List.take_succ_cons, List.take_zero, List.drop_succ_cons, List.drop_zero]
        refine tab_val (.bool true) (fun r w1 hr hg hA => by obtain ⟨q0, -⟩ := hA; have q0e : r (.tmp 7) = .bool true := q0; exact ⟨rfl, by simp [go_sem, q0e]⟩) ?_
        refine tab_val (.bool false) (fun r w1 hr hg hA => by obtain ⟨⟨_, q0⟩, -⟩ := hA; have q0e : r (.tmp 35) = .bool true := q0; exact ⟨rfl, by simp [go_sem, q0e]⟩) ?_
        refine tab_val (.bool false) (fun r w1 hr hg hA => by obtain ⟨⟨_, q0⟩, -⟩ := hA; have q0e : r (.tmp 36) = .bool false := q0; exact ⟨rfl, by simp [go_sem, q0e]⟩) ?_
        refine tab_val (en (xa, xb, xc)) (fun r w1 hr hg hA => by obtain ⟨q0, ⟨_, q1⟩, -⟩ := hA; have q0e : r (.tmp 6) = .pointer (some ⟨w3.heap.size, 0, none⟩) := q0; have q1e : r (.tmp 37) = .bool false := q1; have hc := And.intro (BX.out _ (hg1.trans hg)) (And.intro (HEi.out _ (hg1.trans hg)) (HEj.out _ (hg1.trans hg))); exact ⟨⟨_, q1e, rfl⟩, by simp [go_sem, q0e, hc]⟩) ?_
        refine tab_val (.slice (some ⟨gs, os, none⟩) ll cs) (fun r w1 hr hg hA => by obtain ⟨q0, ⟨_, q1⟩, -⟩ := hA; have q0e : r (.tmp 4) = .slice (some ⟨gs, os, none⟩) ll cs := q0; have q1e : r (.tmp 37) = .bool false := q1; exact ⟨⟨_, q1e, rfl⟩, by simp [go_sem, q0e]⟩) ?_
        refine tab_val (iv i) (fun r w1 hr hg hA => by obtain ⟨q0, ⟨_, q1⟩, -⟩ := hA; have q0e : r (.tmp 5) = iv i := q0; have q1e : r (.tmp 37) = .bool false := q1; exact ⟨⟨_, q1e, rfl⟩, by simp [go_sem, q0e]⟩) ?_
        refine tab_val (.pointer (some ⟨gs, os + i * 3, none⟩)) (fun r w1 hr hg hA => by obtain ⟨⟨_, q0⟩, ⟨_, q1⟩, ⟨_, q2⟩, -⟩ := hA; have q0e : r (.tmp 39) = .slice (some ⟨gs, os, none⟩) ll cs := q0; have q1e : r (.tmp 40) = iv i := q1; have q2e : r (.tmp 37) = .bool false := q2; exact ⟨⟨_, q2e, rfl⟩, by simp [go_sem, q0e, q1e, hil]⟩) ?_
        refine tab_val (en (xa, xb, xc)) (fun r w1 hr hg hA => by obtain ⟨⟨_, q0⟩, ⟨_, q1⟩, -⟩ := hA; have q0e : r (.tmp 41) = .pointer (some ⟨gs, os + i * 3, none⟩) := q0; have q1e : r (.tmp 37) = .bool false := q1; have hc := And.intro (BX.out _ (hg1.trans hg)) (And.intro (HEi.out _ (hg1.trans hg)) (HEj.out _ (hg1.trans hg))); exact ⟨⟨_, q1e, rfl⟩, by simp [go_sem, q0e, hc]⟩) ?_
        refine tab_val (.bool false) (fun r w1 hr hg hA => by obtain ⟨⟨_, q0⟩, ⟨_, q1⟩, ⟨_, q2⟩, -⟩ := hA; have q0e : r (.tmp 38) = en (xa, xb, xc) := q0; have q1e : r (.tmp 42) = en (xa, xb, xc) := q1; have q2e : r (.tmp 37) = .bool false := q2; exact ⟨⟨_, q2e, rfl⟩, by simp [go_sem, q0e, q1e]⟩) ?_
        refine tab_val (.bool false) (fun r w1 hr hg hA => by obtain ⟨⟨_, q0⟩, ⟨_, q1⟩, -⟩ := hA; have q0e : r (.tmp 37) = .bool false := q0; have q1e : r (.tmp 43) = .bool false := q1; exact ⟨rfl, by simp [go_sem, q0e, q1e]⟩) ?_
        refine tab_val (.bool false) (fun r w1 hr hg hA => by obtain ⟨⟨_, q0⟩, -⟩ := hA; have q0e : r (.tmp 44) = .bool false := q0; exact ⟨rfl, by simp [go_sem, q0e]⟩) ?_
        refine tab_val (iv i) (fun r w1 hr hg hA => by obtain ⟨q0, ⟨_, q1⟩, -⟩ := hA; have q0e : r (.tmp 5) = iv i := q0; have q1e : r (.tmp 45) = .bool false := q1; exact ⟨⟨_, q1e, rfl⟩, by simp [go_sem, q0e]⟩) ?_
        refine tab_val (.bool true) (fun r w1 hr hg hA => by obtain ⟨⟨_, q0⟩, ⟨_, q1⟩, -⟩ := hA; have q0e : r (.tmp 46) = iv i := q0; have q1e : r (.tmp 45) = .bool false := q1; exact ⟨⟨_, q1e, rfl⟩, by simp [go_sem, hr.const, q0e, hi0]⟩) ?_
        refine tab_val (.bool true) (fun r w1 hr hg hA => by obtain ⟨⟨_, q0⟩, ⟨_, q1⟩, -⟩ := hA; have q0e : r (.tmp 47) = .bool true := q0; have q1e : r (.tmp 45) = .bool false := q1; exact ⟨⟨_, q1e, rfl⟩, by simp [go_sem, q0e]⟩) ?_
        refine tab_val (.slice (some ⟨gs, os, none⟩) ll cs) (fun r w1 hr hg hA => by obtain ⟨q0, ⟨_, q1⟩, -⟩ := hA; have q0e : r (.tmp 4) = .slice (some ⟨gs, os, none⟩) ll cs := q0; have q1e : r (.tmp 48) = .bool true := q1; exact ⟨⟨_, q1e, rfl⟩, by simp [go_sem, q0e]⟩) ?_
        refine tab_val (iv i) (fun r w1 hr hg hA => by obtain ⟨q0, ⟨_, q1⟩, -⟩ := hA; have q0e : r (.tmp 5) = iv i := q0; have q1e : r (.tmp 48) = .bool true := q1; exact ⟨⟨_, q1e, rfl⟩, by simp [go_sem, q0e]⟩) ?_
        refine tab_val (.pointer (some ⟨gs, os + i * 3, none⟩)) (fun r w1 hr hg hA => by obtain ⟨⟨_, q0⟩, ⟨_, q1⟩, ⟨_, q2⟩, -⟩ := hA; have q0e : r (.tmp 49) = .slice (some ⟨gs, os, none⟩) ll cs := q0; have q1e : r (.tmp 50) = iv i := q1; have q2e : r (.tmp 48) = .bool true := q2; exact ⟨⟨_, q2e, rfl⟩, by simp [go_sem, q0e, q1e, hil]⟩) ?_
        refine tab_val (en (xa, xb, xc)) (fun r w1 hr hg hA => by obtain ⟨⟨_, q0⟩, ⟨_, q1⟩, -⟩ := hA; have q0e : r (.tmp 51) = .pointer (some ⟨gs, os + i * 3, none⟩) := q0; have q1e : r (.tmp 48) = .bool true := q1; have hc := And.intro (BX.out _ (hg1.trans hg)) (And.intro (HEi.out _ (hg1.trans hg)) (HEj.out _ (hg1.trans hg))); exact ⟨⟨_, q1e, rfl⟩, by simp [go_sem, q0e, hc]⟩) ?_
        refine tab_val (.slice (some ⟨gs, os, none⟩) ll cs) (fun r w1 hr hg hA => by obtain ⟨q0, ⟨_, q1⟩, -⟩ := hA; have q0e : r (.tmp 4) = .slice (some ⟨gs, os, none⟩) ll cs := q0; have q1e : r (.tmp 48) = .bool true := q1; exact ⟨⟨_, q1e, rfl⟩, by simp [go_sem, q0e]⟩) ?_
        refine tab_val (iv i) (fun r w1 hr hg hA => by obtain ⟨q0, ⟨_, q1⟩, -⟩ := hA; have q0e : r (.tmp 5) = iv i := q0; have q1e : r (.tmp 48) = .bool true := q1; exact ⟨⟨_, q1e, rfl⟩, by simp [go_sem, q0e]⟩) ?_
        refine tab_val (iv j) (fun r w1 hr hg hA => by obtain ⟨⟨_, q0⟩, ⟨_, q1⟩, -⟩ := hA; have q0e : r (.tmp 54) = iv i := q0; have q1e : r (.tmp 48) = .bool true := q1; exact ⟨⟨_, q1e, rfl⟩, by simp [go_sem, hr.const, q0e, e1, e2]⟩) ?_
        refine tab_val (.pointer (some ⟨gs, os + j * 3, none⟩)) (fun r w1 hr hg hA => by obtain ⟨⟨_, q0⟩, ⟨_, q1⟩, ⟨_, q2⟩, -⟩ := hA; have q0e : r (.tmp 53) = .slice (some ⟨gs, os, none⟩) ll cs := q0; have q1e : r (.tmp 55) = iv j := q1; have q2e : r (.tmp 48) = .bool true := q2; exact ⟨⟨_, q2e, rfl⟩, by simp [go_sem, q0e, q1e, hjl]⟩) ?_
        refine tab_val (en (pa, pb, pc)) (fun r w1 hr hg hA => by obtain ⟨⟨_, q0⟩, ⟨_, q1⟩, -⟩ := hA; have q0e : r (.tmp 56) = .pointer (some ⟨gs, os + j * 3, none⟩) := q0; have q1e : r (.tmp 48) = .bool true := q1; have hc := And.intro (BX.out _ (hg1.trans hg)) (And.intro (HEi.out _ (hg1.trans hg)) (HEj.out _ (hg1.trans hg))); exact ⟨⟨_, q1e, rfl⟩, by simp [go_sem, q0e, hc]⟩) ?_
        refine tab_call (v := .bool false) (fun w1 hg => HLS.out w1) (fun r w1 hr hg hA => by obtain ⟨⟨_, q0⟩, ⟨_, q1⟩, ⟨_, q2⟩, -⟩ := hA; have q0e : r (.tmp 52) = en (xa, xb, xc) := q0; have q1e : r (.tmp 57) = en (pa, pb, pc) := q1; have q2e : r (.tmp 48) = .bool true := q2; exact ⟨⟨_, q2e, rfl⟩, by simp [go_sem, hr.func, q0e, q1e]⟩) ?_
        refine tab_val (.bool false) (fun r w1 hr hg hA => by obtain ⟨⟨_, q0⟩, ⟨_, q1⟩, ⟨_, q2⟩, -⟩ := hA; have q0e : r (.tmp 48) = .bool true := q0; have q1e : r (.tmp 58) = .bool false := q1; have q2e : r (.tmp 45) = .bool false := q2; exact ⟨⟨_, q2e, rfl⟩, by simp [go_sem, q0e, q1e]⟩) ?_
        refine tab_val (.bool false) (fun r w1 hr hg hA => by obtain ⟨⟨_, q0⟩, ⟨_, q1⟩, -⟩ := hA; have q0e : r (.tmp 45) = .bool false := q0; have q1e : r (.tmp 59) = .bool false := q1; exact ⟨rfl, by simp [go_sem, q0e, q1e]⟩) ?_
        refine tab_end ?_
        simp only [List.reverse_cons, List.reverse_nil, List.nil_append, List.cons_append, Out, BlockP, forall_eq, forall_const, Act.put, List.setIfInBounds_toArray, List.set_cons_succ, List.set_cons_zero]
        intro wA hgA

        clear HEj HLS e1 e2 hjl
        have GA : Hid (Grows w wA) := Lib.hid ((G3.out.al _).trans (hg1.trans hgA))
        have GW : Hid (Grows (w3.alloc (.cells #[.int .i64 xa, .int .i64 xb, .int .i64 xc] 30)) wA) := Lib.hid (hg1.trans hgA)
        clear hg1 hgA hg1' hw0 HEi
        go_wp2
        go_loopw [8, 9, 10] (fun x y t wr => ∃ t0 : Nat, t = iv t0 ∧ x = iv ((L.take t0).count (xa, xb, xc)) ∧ y = iv (((srtE L).take t0).count (xa, xb, xc)) ∧ t0 ≤ ll ∧ Grows wA wr) (fun _ _ t _ => 101 - (intOf t).toNat)
        case atStart => exact ⟨0, rfl, rfl, rfl, Nat.zero_le _, Grows.refl _⟩
        case round =>
          obtain ⟨t, rfl, rfl, rfl, ht, hg⟩ := hrel
          have GI := Lib.hid hg
          clear hg
          by_cases htl : t < ll
          · obtain ⟨bl, ol, rfl, hbl, _⟩ := E.out.at_ (i := t) (by rw [HL.out]; exact htl)
            have C1 := Lib.hid (cntE_succ (xa, xb, xc) L t (by rw [HL.out]; exact htl))
            have C2 := Lib.hid (cntE_succ (xa, xb, xc) (srtE L) t (by rw [SL.out]; exact htl))
            have L1 : (L.take t).count (xa, xb, xc) ≤ 100 := Nat.le_trans List.count_le_length (by rw [List.length_take]; omega)
            have L2 : ((srtE L).take t).count (xa, xb, xc) ≤ 100 := Nat.le_trans List.count_le_length (by rw [List.length_take]; omega)
            obtain ⟨q, hq0⟩ : ∃ q, q = L.getD t e0 := ⟨_, rfl⟩
            obtain ⟨r, hr0⟩ : ∃ r, r = (srtE L).getD t e0 := ⟨_, rfl⟩
            have CF17 : Hid (∀ w', Grows wA w' → (w'.cell? ⟨w3.heap.size, 0, none⟩ = some (.int .i64 xa) ∧ w'.cell? ⟨w3.heap.size, 1, none⟩ = some (.int .i64 xb) ∧ w'.cell? ⟨w3.heap.size, 2, none⟩ = some (.int .i64 xc)) ∧ w'.cell? ⟨bl, ol + t * 3, none⟩ = some (.int .i64 q.1) ∧ w'.cell? ⟨bl, ol + t * 3 + 1, none⟩ = some (.int .i64 q.2.1) ∧ w'.cell? ⟨bl, ol + t * 3 + 2, none⟩ = some (.int .i64 q.2.2)) := Lib.hid fun w' hg => ⟨BX.out _ (GW.out.trans hg), by
              rw [hq0]
              exact (E.out.grows (GA.out.trans hg)).at_cell (i := t) (by rw [HL.out]; exact htl)⟩
            have CF19 : Hid (∀ w', Grows wA w' → (w'.cell? ⟨w3.heap.size, 0, none⟩ = some (.int .i64 xa) ∧ w'.cell? ⟨w3.heap.size, 1, none⟩ = some (.int .i64 xb) ∧ w'.cell? ⟨w3.heap.size, 2, none⟩ = some (.int .i64 xc)) ∧ w'.cell? ⟨gs, os + t * 3, none⟩ = some (.int .i64 r.1) ∧ w'.cell? ⟨gs, os + t * 3 + 1, none⟩ = some (.int .i64 r.2.1) ∧ w'.cell? ⟨gs, os + t * 3 + 2, none⟩ = some (.int .i64 r.2.2)) := Lib.hid fun w' hg => ⟨BX.out _ (GW.out.trans hg), by
              rw [hr0]
              exact (HE3.out.grows (((Grows.refl w3).al _).trans (GW.out.trans hg))).at_cell (i := t) (by rw [SL.out]; exact htl)⟩
            rw [← hq0] at C1
            rw [← hr0] at C2
            clear hq0 hr0
            generalize (L.take t).count (xa, xb, xc) = c1 at L1 C1
            generalize ((srtE L).take t).count (xa, xb, xc) = c2 at L2 C2
            obtain ⟨qa, qb, qc⟩ := q
            obtain ⟨ra, rb, rc⟩ := r
            have C1s : ((((qa, qb, qc) : Ent3) = (xa, xb, xc)) → Hid ((L.take (t + 1)).count (xa, xb, xc) = c1 + 1)) ∧ (¬ (((qa, qb, qc) : Ent3) = (xa, xb, xc)) → Hid ((L.take (t + 1)).count (xa, xb, xc) = c1)) := ⟨fun h => Lib.hid (by rw [C1.out, if_pos h]), fun h => Lib.hid (by rw [C1.out, if_neg h]; rfl)⟩
            have C2s : ((((ra, rb, rc) : Ent3) = (xa, xb, xc)) → Hid (((srtE L).take (t + 1)).count (xa, xb, xc) = c2 + 1)) ∧ (¬ (((ra, rb, rc) : Ent3) = (xa, xb, xc)) → Hid (((srtE L).take (t + 1)).count (xa, xb, xc) = c2)) := ⟨fun h => Lib.hid (by rw [C2.out, if_pos h]), fun h => Lib.hid (by rw [C2.out, if_neg h]; rfl)⟩
            have HC1 := Lib.hid C1s
            have HC2 := Lib.hid C2s
            clear C1 C2 C1s C2s
            have CF17 := Lib.hid (fun w' (hg : Grows wr w') => CF17.out w' (GI.out.trans hg))
            go_wp2_with fail
            refine wp_region_tab 6 (by kernel_rfl) (by kernel_rfl) ?_
            intro w0 hw0 hg1 hg1'
            simp only [List.take_succ_cons, List.take_zero, List.drop_succ_cons, List.drop_zero]
            refine tab_val (.slice (some ⟨bl, ol, none⟩) ll c) (fun r w1 hr hg hA => by obtain ⟨q0, -⟩ := hA; have q0e : r (.tmp 0) = .slice (some ⟨bl, ol, none⟩) ll c := q0; exact ⟨rfl, by simp [go_sem, q0e]⟩) ?_
            refine tab_val (iv t) (fun r w1 hr hg hA => by obtain ⟨q0, -⟩ := hA; have q0e : r (.tmp 10) = iv t := q0; exact ⟨rfl, by simp [go_sem, q0e]⟩) ?_
            refine tab_val (.pointer (some ⟨bl, ol + t * 3, none⟩)) (fun r w1 hr hg hA => by obtain ⟨⟨_, q0⟩, ⟨_, q1⟩, -⟩ := hA; have q0e : r (.tmp 67) = .slice (some ⟨bl, ol, none⟩) ll c := q0; have q1e : r (.tmp 68) = iv t := q1; exact ⟨rfl, by simp [go_sem, q0e, q1e, htl]⟩) ?_
            refine tab_val (en (qa, qb, qc)) (fun r w1 hr hg hA => by obtain ⟨⟨_, q0⟩, -⟩ := hA; have q0e : r (.tmp 69) = .pointer (some ⟨bl, ol + t * 3, none⟩) := q0; have hc := CF17.out _ (hg1.trans hg); exact ⟨rfl, by simp [go_sem, q0e, hc]⟩) ?_
            refine tab_val (en (xa, xb, xc)) (fun r w1 hr hg hA => by obtain ⟨q0, -⟩ := hA; have q0e : r (.tmp 6) = .pointer (some ⟨w3.heap.size, 0, none⟩) := q0; have hc := CF17.out _ (hg1.trans hg); exact ⟨rfl, by simp [go_sem, q0e, hc]⟩) ?_
            refine tab_val (.bool (beqE (qa, qb, qc) (xa, xb, xc))) (fun r w1 hr hg hA => by obtain ⟨⟨_, q0⟩, ⟨_, q1⟩, -⟩ := hA; have q0e : r (.tmp 70) = en (qa, qb, qc) := q0; have q1e : r (.tmp 71) = en (xa, xb, xc) := q1; exact ⟨rfl, by simp [go_sem, q0e, q1e, eqIf]⟩) ?_
            refine tab_end ?_
            simp only [List.reverse_cons, List.reverse_nil, List.nil_append, List.cons_append, Out, BlockP, forall_eq, forall_const, Act.put, List.setIfInBounds_toArray, List.set_cons_succ, List.set_cons_zero]
            intro wA_1 hgA
            have GI2 := Lib.hid (GI.out.trans (hg1.trans hgA))
            clear hg1 hgA hg1' hw0 CF17
            have CF19 := Lib.hid (fun w' (hg : Grows wA_1 w') => CF19.out w' (GI2.out.trans hg))
            by_cases hq : ((qa, qb, qc) : Ent3) = (xa, xb, xc)
            · rw [beqE_yes hq]
              have C1 := HC1.out.1 hq
              have C2s := HC2.out
              go_wp2_with fail
              refine wp_region_tab 6 (by kernel_rfl) (by kernel_rfl) ?_
              intro w0 hw0 hg1 hg1'
              simp only [List.take_succ_cons, List.take_zero, List.drop_succ_cons, List.drop_zero]
              refine tab_val (.slice (some ⟨gs, os, none⟩) ll cs) (fun r w1 hr hg hA => by obtain ⟨q0, -⟩ := hA; have q0e : r (.tmp 4) = .slice (some ⟨gs, os, none⟩) ll cs := q0; exact ⟨rfl, by simp [go_sem, q0e]⟩) ?_
              refine tab_val (iv t) (fun r w1 hr hg hA => by obtain ⟨q0, -⟩ := hA; have q0e : r (.tmp 10) = iv t := q0; exact ⟨rfl, by simp [go_sem, q0e]⟩) ?_
              refine tab_val (.pointer (some ⟨gs, os + t * 3, none⟩)) (fun r w1 hr hg hA => by obtain ⟨⟨_, q0⟩, ⟨_, q1⟩, -⟩ := hA; have q0e : r (.tmp 75) = .slice (some ⟨gs, os, none⟩) ll cs := q0; have q1e : r (.tmp 76) = iv t := q1; exact ⟨rfl, by simp [go_sem, q0e, q1e, htl]⟩) ?_
              refine tab_val (en (ra, rb, rc)) (fun r w1 hr hg hA => by obtain ⟨⟨_, q0⟩, -⟩ := hA; have q0e : r (.tmp 77) = .pointer (some ⟨gs, os + t * 3, none⟩) := q0; have hc := CF19.out _ (hg1.trans hg); exact ⟨rfl, by simp [go_sem, q0e, hc]⟩) ?_
              refine tab_val (en (xa, xb, xc)) (fun r w1 hr hg hA => by obtain ⟨q0, -⟩ := hA; have q0e : r (.tmp 6) = .pointer (some ⟨w3.heap.size, 0, none⟩) := q0; have hc := CF19.out _ (hg1.trans hg); exact ⟨rfl, by simp [go_sem, q0e, hc]⟩) ?_
              refine tab_val (.bool (beqE (ra, rb, rc) (xa, xb, xc))) (fun r w1 hr hg hA => by obtain ⟨⟨_, q0⟩, ⟨_, q1⟩, -⟩ := hA; have q0e : r (.tmp 78) = en (ra, rb, rc) := q0; have q1e : r (.tmp 79) = en (xa, xb, xc) := q1; exact ⟨rfl, by simp [go_sem, q0e, q1e, eqIf]⟩) ?_
              refine tab_end ?_
              simp only [List.reverse_cons, List.reverse_nil, List.nil_append, List.cons_append, Out, BlockP, forall_eq, forall_const, Act.put, List.setIfInBounds_toArray, List.set_cons_succ, List.set_cons_zero]
              intro wA hgA
              have GB := Lib.hid (GI2.out.trans (hg1.trans hgA))
              clear hg1 hgA hg1' hw0
              by_cases hr : ((ra, rb, rc) : Ent3) = (xa, xb, xc)
              · rw [beqE_yes hr]
                have C2 := C2s.1 hr
                go_wp2
                refine ⟨⟨t + 1, by simp, by first | (rw [C1.out]; done) | (rw [C1.out]; simp), by first | (rw [C2.out]; done) | (rw [C2.out]; simp), by omega, GB.out⟩, by simp only [intOf]; omega⟩
              · rw [beqE_no hr]
                have C2 := C2s.2 hr
                go_wp2
                refine ⟨⟨t + 1, by simp, by first | (rw [C1.out]; done) | (rw [C1.out]; simp), by first | (rw [C2.out]; done) | (rw [C2.out]; simp), by omega, GB.out⟩, by simp only [intOf]; omega⟩

            · rw [beqE_no hq]
              have C1 := HC1.out.2 hq
              have C2s := HC2.out
              go_wp2_with fail
              refine wp_region_tab 6 (by kernel_rfl) (by kernel_rfl) ?_
              intro w0 hw0 hg1 hg1'
              simp only [List.take_succ_cons, List.take_zero, List.drop_succ_cons, List.drop_zero]
              refine tab_val (.slice (some ⟨gs, os, none⟩) ll cs) (fun r w1 hr hg hA => by obtain ⟨q0, -⟩ := hA; have q0e : r (.tmp 4) = .slice (some ⟨gs, os, none⟩) ll cs := q0; exact ⟨rfl, by simp [go_sem, q0e]⟩) ?_
              refine tab_val (iv t) (fun r w1 hr hg hA => by obtain ⟨q0, -⟩ := hA; have q0e : r (.tmp 10) = iv t := q0; exact ⟨rfl, by simp [go_sem, q0e]⟩) ?_
              refine tab_val (.pointer (some ⟨gs, os + t * 3, none⟩)) (fun r w1 hr hg hA => by obtain ⟨⟨_, q0⟩, ⟨_, q1⟩, -⟩ := hA; have q0e : r (.tmp 75) = .slice (some ⟨gs, os, none⟩) ll cs := q0; have q1e : r (.tmp 76) = iv t := q1; exact ⟨rfl, by simp [go_sem, q0e, q1e, htl]⟩) ?_
              refine tab_val (en (ra, rb, rc)) (fun r w1 hr hg hA => by obtain ⟨⟨_, q0⟩, -⟩ := hA; have q0e : r (.tmp 77) = .pointer (some ⟨gs, os + t * 3, none⟩) := q0; have hc := CF19.out _ (hg1.trans hg); exact ⟨rfl, by simp [go_sem, q0e, hc]⟩) ?_
              refine tab_val (en (xa, xb, xc)) (fun r w1 hr hg hA => by obtain ⟨q0, -⟩ := hA; have q0e : r (.tmp 6) = .pointer (some ⟨w3.heap.size, 0, none⟩) := q0; have hc := CF19.out _ (hg1.trans hg); exact ⟨rfl, by simp [go_sem, q0e, hc]⟩) ?_
              refine tab_val (.bool (beqE (ra, rb, rc) (xa, xb, xc))) (fun r w1 hr hg hA => by obtain ⟨⟨_, q0⟩, ⟨_, q1⟩, -⟩ := hA; have q0e : r (.tmp 78) = en (ra, rb, rc) := q0; have q1e : r (.tmp 79) = en (xa, xb, xc) := q1; exact ⟨rfl, by simp [go_sem, q0e, q1e, eqIf]⟩) ?_
              refine tab_end ?_
              simp only [List.reverse_cons, List.reverse_nil, List.nil_append, List.cons_append, Out, BlockP, forall_eq, forall_const, Act.put, List.setIfInBounds_toArray, List.set_cons_succ, List.set_cons_zero]
              intro wA hgA
              have GB := Lib.hid (GI2.out.trans (hg1.trans hgA))
              clear hg1 hgA hg1' hw0
              by_cases hr : ((ra, rb, rc) : Ent3) = (xa, xb, xc)
              · rw [beqE_yes hr]
                have C2 := C2s.1 hr
                go_wp2
                refine ⟨⟨t + 1, by simp, by first | (rw [C1.out]; done) | (rw [C1.out]; simp), by first | (rw [C2.out]; done) | (rw [C2.out]; simp), by omega, GB.out⟩, by simp only [intOf]; omega⟩
              · rw [beqE_no hr]
                have C2 := C2s.2 hr
                go_wp2
                refine ⟨⟨t + 1, by simp, by first | (rw [C1.out]; done) | (rw [C1.out]; simp), by first | (rw [C2.out]; done) | (rw [C2.out]; simp), by omega, GB.out⟩, by simp only [intOf]; omega⟩
          · have hte : t = ll := by omega
            subst hte
            have E1 : Hid ((L.take t).count (xa, xb, xc) = ((srtE L).take t).count (xa, xb, xc)) := Lib.hid (by
              rw [List.take_of_length_le (by rw [HL.out]; omega), List.take_of_length_le (by rw [SL.out]; omega), SC.out])
            rw [← E1.out]
            have L1 : (L.take t).count (xa, xb, xc) ≤ 100 := Nat.le_trans List.count_le_length (by rw [List.length_take]; omega)
            generalize (L.take t).count (xa, xb, xc) = c1 at L1 ⊢
            have bcc : ((c1 : Int) == (c1 : Int)) = true := by simp
            have GE := Lib.hid (GA.out.trans GI.out)
            have G3E := Lib.hid (((Grows.refl w3).al (.cells #[.int .i64 xa, .int .i64 xb, .int .i64 xc] 30)).trans (GW.out.trans GI.out))
            have HI := Lib.hid hiL
            clear L1 hil ht hiL
            have hil2 : i < 100 := by have := HI.out; have := HL3.out; omega
            go_wp2
            refine ⟨⟨i + 1, popF L', v3, by simp, ?_, HSR3.out, HP3.out, H3.out.grows G3E.out, HF3.out, HE3.out.grows G3E.out, GE.out⟩, ?_⟩
            · have := HI.out; have := HL3.out; omega
            · simp only [intOf]; omega
      · clear SR
        go_wp2_with fail
        refine wp_region_tab 26 (by kernel_rfl) (by kernel_rfl) ?_
        intro w0 hw0 hg1 hg1'
        simp only [List.take_succ_cons, List.take_zero, List.drop_succ_cons, List.drop_zero]
        refine tab_val (.bool true) (fun r w1 hr hg hA => by obtain ⟨q0, -⟩ := hA; have q0e : r (.tmp 7) = .bool true := q0; exact ⟨rfl, by simp [go_sem, q0e]⟩) ?_
        refine tab_val (.bool false) (fun r w1 hr hg hA => by obtain ⟨⟨_, q0⟩, -⟩ := hA; have q0e : r (.tmp 35) = .bool true := q0; exact ⟨rfl, by simp [go_sem, q0e]⟩) ?_
        refine tab_val (.bool false) (fun r w1 hr hg hA => by obtain ⟨⟨_, q0⟩, -⟩ := hA; have q0e : r (.tmp 36) = .bool false := q0; exact ⟨rfl, by simp [go_sem, q0e]⟩) ?_
        refine tab_val (en (xa, xb, xc)) (fun r w1 hr hg hA => by obtain ⟨q0, ⟨_, q1⟩, -⟩ := hA; have q0e : r (.tmp 6) = .pointer (some ⟨w3.heap.size, 0, none⟩) := q0; have q1e : r (.tmp 37) = .bool false := q1; have hc := And.intro (BX.out _ (hg1.trans hg)) (HEi.out _ (hg1.trans hg)); exact ⟨⟨_, q1e, rfl⟩, by simp [go_sem, q0e, hc]⟩) ?_
        refine tab_val (.slice (some ⟨gs, os, none⟩) ll cs) (fun r w1 hr hg hA => by obtain ⟨q0, ⟨_, q1⟩, -⟩ := hA; have q0e : r (.tmp 4) = .slice (some ⟨gs, os, none⟩) ll cs := q0; have q1e : r (.tmp 37) = .bool false := q1; exact ⟨⟨_, q1e, rfl⟩, by simp [go_sem, q0e]⟩) ?_
        refine tab_val (iv i) (fun r w1 hr hg hA => by obtain ⟨q0, ⟨_, q1⟩, -⟩ := hA; have q0e : r (.tmp 5) = iv i := q0; have q1e : r (.tmp 37) = .bool false := q1; exact ⟨⟨_, q1e, rfl⟩, by simp [go_sem, q0e]⟩) ?_
        refine tab_val (.pointer (some ⟨gs, os + i * 3, none⟩)) (fun r w1 hr hg hA => by obtain ⟨⟨_, q0⟩, ⟨_, q1⟩, ⟨_, q2⟩, -⟩ := hA; have q0e : r (.tmp 39) = .slice (some ⟨gs, os, none⟩) ll cs := q0; have q1e : r (.tmp 40) = iv i := q1; have q2e : r (.tmp 37) = .bool false := q2; exact ⟨⟨_, q2e, rfl⟩, by simp [go_sem, q0e, q1e, hil]⟩) ?_
        refine tab_val (en (xa, xb, xc)) (fun r w1 hr hg hA => by obtain ⟨⟨_, q0⟩, ⟨_, q1⟩, -⟩ := hA; have q0e : r (.tmp 41) = .pointer (some ⟨gs, os + i * 3, none⟩) := q0; have q1e : r (.tmp 37) = .bool false := q1; have hc := And.intro (BX.out _ (hg1.trans hg)) (HEi.out _ (hg1.trans hg)); exact ⟨⟨_, q1e, rfl⟩, by simp [go_sem, q0e, hc]⟩) ?_
        refine tab_val (.bool false) (fun r w1 hr hg hA => by obtain ⟨⟨_, q0⟩, ⟨_, q1⟩, ⟨_, q2⟩, -⟩ := hA; have q0e : r (.tmp 38) = en (xa, xb, xc) := q0; have q1e : r (.tmp 42) = en (xa, xb, xc) := q1; have q2e : r (.tmp 37) = .bool false := q2; exact ⟨⟨_, q2e, rfl⟩, by simp [go_sem, q0e, q1e]⟩) ?_
        refine tab_val (.bool false) (fun r w1 hr hg hA => by obtain ⟨⟨_, q0⟩, ⟨_, q1⟩, -⟩ := hA; have q0e : r (.tmp 37) = .bool false := q0; have q1e : r (.tmp 43) = .bool false := q1; exact ⟨rfl, by simp [go_sem, q0e, q1e]⟩) ?_
        refine tab_val (.bool false) (fun r w1 hr hg hA => by obtain ⟨⟨_, q0⟩, -⟩ := hA; have q0e : r (.tmp 44) = .bool false := q0; exact ⟨rfl, by simp [go_sem, q0e]⟩) ?_
        refine tab_val (iv i) (fun r w1 hr hg hA => by obtain ⟨q0, ⟨_, q1⟩, -⟩ := hA; have q0e : r (.tmp 5) = iv i := q0; have q1e : r (.tmp 45) = .bool false := q1; exact ⟨⟨_, q1e, rfl⟩, by simp [go_sem, q0e]⟩) ?_
        refine tab_val (.bool false) (fun r w1 hr hg hA => by obtain ⟨⟨_, q0⟩, ⟨_, q1⟩, -⟩ := hA; have q0e : r (.tmp 46) = iv i := q0; have q1e : r (.tmp 45) = .bool false := q1; exact ⟨⟨_, q1e, rfl⟩, by simp [go_sem, hr.const, q0e, hi0]⟩) ?_
        refine tab_val (.bool false) (fun r w1 hr hg hA => by obtain ⟨⟨_, q0⟩, ⟨_, q1⟩, -⟩ := hA; have q0e : r (.tmp 47) = .bool false := q0; have q1e : r (.tmp 45) = .bool false := q1; exact ⟨⟨_, q1e, rfl⟩, by simp [go_sem, q0e]⟩) ?_
        refine tab_skip (fun r w1 hr hg hA => by obtain ⟨q0, ⟨_, q1⟩, -⟩ := hA; have q0e : r (.tmp 4) = .slice (some ⟨gs, os, none⟩) ll cs := q0; have q1e : r (.tmp 48) = .bool false := q1; exact ⟨_, q1e, rfl⟩) ?_
        refine tab_skip (fun r w1 hr hg hA => by obtain ⟨q0, ⟨_, q1⟩, -⟩ := hA; have q0e : r (.tmp 5) = iv i := q0; have q1e : r (.tmp 48) = .bool false := q1; exact ⟨_, q1e, rfl⟩) ?_
        refine tab_skip (fun r w1 hr hg hA => by obtain ⟨⟨_, q0⟩, ⟨_, q1⟩, ⟨_, q2⟩, -⟩ := hA; have q0e : r (.tmp 49) = undef := q0; have q1e : r (.tmp 50) = undef := q1; have q2e : r (.tmp 48) = .bool false := q2; exact ⟨_, q2e, rfl⟩) ?_
        refine tab_skip (fun r w1 hr hg hA => by obtain ⟨⟨_, q0⟩, ⟨_, q1⟩, -⟩ := hA; have q0e : r (.tmp 51) = undef := q0; have q1e : r (.tmp 48) = .bool false := q1; exact ⟨_, q1e, rfl⟩) ?_
        refine tab_skip (fun r w1 hr hg hA => by obtain ⟨q0, ⟨_, q1⟩, -⟩ := hA; have q0e : r (.tmp 4) = .slice (some ⟨gs, os, none⟩) ll cs := q0; have q1e : r (.tmp 48) = .bool false := q1; exact ⟨_, q1e, rfl⟩) ?_
        refine tab_skip (fun r w1 hr hg hA => by obtain ⟨q0, ⟨_, q1⟩, -⟩ := hA; have q0e : r (.tmp 5) = iv i := q0; have q1e : r (.tmp 48) = .bool false := q1; exact ⟨_, q1e, rfl⟩) ?_
        refine tab_skip (fun r w1 hr hg hA => by obtain ⟨⟨_, q0⟩, ⟨_, q1⟩, -⟩ := hA; have q0e : r (.tmp 54) = undef := q0; have q1e : r (.tmp 48) = .bool false := q1; exact ⟨_, q1e, rfl⟩) ?_
        refine tab_skip (fun r w1 hr hg hA => by obtain ⟨⟨_, q0⟩, ⟨_, q1⟩, ⟨_, q2⟩, -⟩ := hA; have q0e : r (.tmp 53) = undef := q0; have q1e : r (.tmp 55) = undef := q1; have q2e : r (.tmp 48) = .bool false := q2; exact ⟨_, q2e, rfl⟩) ?_
        refine tab_skip (fun r w1 hr hg hA => by obtain ⟨⟨_, q0⟩, ⟨_, q1⟩, -⟩ := hA; have q0e : r (.tmp 56) = undef := q0; have q1e : r (.tmp 48) = .bool false := q1; exact ⟨_, q1e, rfl⟩) ?_
        refine tab_skip (fun r w1 hr hg hA => by obtain ⟨⟨_, q0⟩, ⟨_, q1⟩, ⟨_, q2⟩, -⟩ := hA; have q0e : r (.tmp 52) = undef := q0; have q1e : r (.tmp 57) = undef := q1; have q2e : r (.tmp 48) = .bool false := q2; exact ⟨_, q2e, rfl⟩) ?_
        refine tab_val (.bool false) (fun r w1 hr hg hA => by obtain ⟨⟨_, q0⟩, ⟨_, q1⟩, ⟨_, q2⟩, -⟩ := hA; have q0e : r (.tmp 48) = .bool false := q0; have q1e : r (.tmp 58) = undef := q1; have q2e : r (.tmp 45) = .bool false := q2; exact ⟨⟨_, q2e, rfl⟩, by simp [go_sem, hr.const, q0e]⟩) ?_
        refine tab_val (.bool false) (fun r w1 hr hg hA => by obtain ⟨⟨_, q0⟩, ⟨_, q1⟩, -⟩ := hA; have q0e : r (.tmp 45) = .bool false := q0; have q1e : r (.tmp 59) = .bool false := q1; exact ⟨rfl, by simp [go_sem, q0e, q1e]⟩) ?_
        refine tab_end ?_
        simp only [List.reverse_cons, List.reverse_nil, List.nil_append, List.cons_append, Out, BlockP, forall_eq, forall_const, Act.put, List.setIfInBounds_toArray, List.set_cons_succ, List.set_cons_zero]
        intro wA hgA

        have GA : Hid (Grows w wA) := Lib.hid ((G3.out.al _).trans (hg1.trans hgA))
        have GW : Hid (Grows (w3.alloc (.cells #[.int .i64 xa, .int .i64 xb, .int .i64 xc] 30)) wA) := Lib.hid (hg1.trans hgA)
        clear hg1 hgA hg1' hw0 HEi
        go_wp2
        go_loopw [8, 9, 10] (fun x y t wr => ∃ t0 : Nat, t = iv t0 ∧ x = iv ((L.take t0).count (xa, xb, xc)) ∧ y = iv (((srtE L).take t0).count (xa, xb, xc)) ∧ t0 ≤ ll ∧ Grows wA wr) (fun _ _ t _ => 101 - (intOf t).toNat)
        case atStart => exact ⟨0, rfl, rfl, rfl, Nat.zero_le _, Grows.refl _⟩
        case round =>
          obtain ⟨t, rfl, rfl, rfl, ht, hg⟩ := hrel
          have GI := Lib.hid hg
          clear hg
          by_cases htl : t < ll
          · obtain ⟨bl, ol, rfl, hbl, _⟩ := E.out.at_ (i := t) (by rw [HL.out]; exact htl)
            have C1 := Lib.hid (cntE_succ (xa, xb, xc) L t (by rw [HL.out]; exact htl))
            have C2 := Lib.hid (cntE_succ (xa, xb, xc) (srtE L) t (by rw [SL.out]; exact htl))
            have L1 : (L.take t).count (xa, xb, xc) ≤ 100 := Nat.le_trans List.count_le_length (by rw [List.length_take]; omega)
            have L2 : ((srtE L).take t).count (xa, xb, xc) ≤ 100 := Nat.le_trans List.count_le_length (by rw [List.length_take]; omega)
            obtain ⟨q, hq0⟩ : ∃ q, q = L.getD t e0 := ⟨_, rfl⟩
            obtain ⟨r, hr0⟩ : ∃ r, r = (srtE L).getD t e0 := ⟨_, rfl⟩
            have CF17 : Hid (∀ w', Grows wA w' → (w'.cell? ⟨w3.heap.size, 0, none⟩ = some (.int .i64 xa) ∧ w'.cell? ⟨w3.heap.size, 1, none⟩ = some (.int .i64 xb) ∧ w'.cell? ⟨w3.heap.size, 2, none⟩ = some (.int .i64 xc)) ∧ w'.cell? ⟨bl, ol + t * 3, none⟩ = some (.int .i64 q.1) ∧ w'.cell? ⟨bl, ol + t * 3 + 1, none⟩ = some (.int .i64 q.2.1) ∧ w'.cell? ⟨bl, ol + t * 3 + 2, none⟩ = some (.int .i64 q.2.2)) := Lib.hid fun w' hg => ⟨BX.out _ (GW.out.trans hg), by
              rw [hq0]
              exact (E.out.grows (GA.out.trans hg)).at_cell (i := t) (by rw [HL.out]; exact htl)⟩
            have CF19 : Hid (∀ w', Grows wA w' → (w'.cell? ⟨w3.heap.size, 0, none⟩ = some (.int .i64 xa) ∧ w'.cell? ⟨w3.heap.size, 1, none⟩ = some (.int .i64 xb) ∧ w'.cell? ⟨w3.heap.size, 2, none⟩ = some (.int .i64 xc)) ∧ w'.cell? ⟨gs, os + t * 3, none⟩ = some (.int .i64 r.1) ∧ w'.cell? ⟨gs, os + t * 3 + 1, none⟩ = some (.int .i64 r.2.1) ∧ w'.cell? ⟨gs, os + t * 3 + 2, none⟩ = some (.int .i64 r.2.2)) := Lib.hid fun w' hg => ⟨BX.out _ (GW.out.trans hg), by
              rw [hr0]
              exact (HE3.out.grows (((Grows.refl w3).al _).trans (GW.out.trans hg))).at_cell (i := t) (by rw [SL.out]; exact htl)⟩
            rw [← hq0] at C1
            rw [← hr0] at C2
            clear hq0 hr0
            generalize (L.take t).count (xa, xb, xc) = c1 at L1 C1
            generalize ((srtE L).take t).count (xa, xb, xc) = c2 at L2 C2
            obtain ⟨qa, qb, qc⟩ := q
            obtain ⟨ra, rb, rc⟩ := r
            have C1s : ((((qa, qb, qc) : Ent3) = (xa, xb, xc)) → Hid ((L.take (t + 1)).count (xa, xb, xc) = c1 + 1)) ∧ (¬ (((qa, qb, qc) : Ent3) = (xa, xb, xc)) → Hid ((L.take (t + 1)).count (xa, xb, xc) = c1)) := ⟨fun h => Lib.hid (by rw [C1.out, if_pos h]), fun h => Lib.hid (by rw [C1.out, if_neg h]; rfl)⟩
            have C2s : ((((ra, rb, rc) : Ent3) = (xa, xb, xc)) → Hid (((srtE L).take (t + 1)).count (xa, xb, xc) = c2 + 1)) ∧ (¬ (((ra, rb, rc) : Ent3) = (xa, xb, xc)) → Hid (((srtE L).take (t + 1)).count (xa, xb, xc) = c2)) := ⟨fun h => Lib.hid (by rw [C2.out, if_pos h]), fun h => Lib.hid (by rw [C2.out, if_neg h]; rfl)⟩
            have HC1 := Lib.hid C1s
            have HC2 := Lib.hid C2s
            clear C1 C2 C1s C2s
            have CF17 := Lib.hid (fun w' (hg : Grows wr w') => CF17.out w' (GI.out.trans hg))
            go_wp2_with fail
            refine wp_region_tab 6 (by kernel_rfl) (by kernel_rfl) ?_
            intro w0 hw0 hg1 hg1'
            simp only [List.take_succ_cons, List.take_zero, List.drop_succ_cons, List.drop_zero]
            refine tab_val (.slice (some ⟨bl, ol, none⟩) ll c) (fun r w1 hr hg hA => by obtain ⟨q0, -⟩ := hA; have q0e : r (.tmp 0) = .slice (some ⟨bl, ol, none⟩) ll c := q0; exact ⟨rfl, by simp [go_sem, q0e]⟩) ?_
            refine tab_val (iv t) (fun r w1 hr hg hA => by obtain ⟨q0, -⟩ := hA; have q0e : r (.tmp 10) = iv t := q0; exact ⟨rfl, by simp [go_sem, q0e]⟩) ?_
            refine tab_val (.pointer (some ⟨bl, ol + t * 3, none⟩)) (fun r w1 hr hg hA => by obtain ⟨⟨_, q0⟩, ⟨_, q1⟩, -⟩ := hA; have q0e : r (.tmp 67) = .slice (some ⟨bl, ol, none⟩) ll c := q0; have q1e : r (.tmp 68) = iv t := q1; exact ⟨rfl, by simp [go_sem, q0e, q1e, htl]⟩) ?_
            refine tab_val (en (qa, qb, qc)) (fun r w1 hr hg hA => by obtain ⟨⟨_, q0⟩, -⟩ := hA; have q0e : r (.tmp 69) = .pointer (some ⟨bl, ol + t * 3, none⟩) := q0; have hc := CF17.out _ (hg1.trans hg); exact ⟨rfl, by simp [go_sem, q0e, hc]⟩) ?_
            refine tab_val (en (xa, xb, xc)) (fun r w1 hr hg hA => by obtain ⟨q0, -⟩ := hA; have q0e : r (.tmp 6) = .pointer (some ⟨w3.heap.size, 0, none⟩) := q0; have hc := CF17.out _ (hg1.trans hg); exact ⟨rfl, by simp [go_sem, q0e, hc]⟩) ?_
            refine tab_val (.bool (beqE (qa, qb, qc) (xa, xb, xc))) (fun r w1 hr hg hA => by obtain ⟨⟨_, q0⟩, ⟨_, q1⟩, -⟩ := hA; have q0e : r (.tmp 70) = en (qa, qb, qc) := q0; have q1e : r (.tmp 71) = en (xa, xb, xc) := q1; exact ⟨rfl, by simp [go_sem, q0e, q1e, eqIf]⟩) ?_
            refine tab_end ?_
            simp only [List.reverse_cons, List.reverse_nil, List.nil_append, List.cons_append, Out, BlockP, forall_eq, forall_const, Act.put, List.setIfInBounds_toArray, List.set_cons_succ, List.set_cons_zero]
            intro wA_1 hgA
            have GI2 := Lib.hid (GI.out.trans (hg1.trans hgA))
            clear hg1 hgA hg1' hw0 CF17
            have CF19 := Lib.hid (fun w' (hg : Grows wA_1 w') => CF19.out w' (GI2.out.trans hg))
            by_cases hq : ((qa, qb, qc) : Ent3) = (xa, xb, xc)
            · rw [beqE_yes hq]
              have C1 := HC1.out.1 hq
              have C2s := HC2.out
              go_wp2_with fail
              refine wp_region_tab 6 (by kernel_rfl) (by kernel_rfl) ?_
              intro w0 hw0 hg1 hg1'
              simp only [List.take_succ_cons, List.take_zero, List.drop_succ_cons, List.drop_zero]
              refine tab_val (.slice (some ⟨gs, os, none⟩) ll cs) (fun r w1 hr hg hA => by obtain ⟨q0, -⟩ := hA; have q0e : r (.tmp 4) = .slice (some ⟨gs, os, none⟩) ll cs := q0; exact ⟨rfl, by simp [go_sem, q0e]⟩) ?_
              refine tab_val (iv t) (fun r w1 hr hg hA => by obtain ⟨q0, -⟩ := hA; have q0e : r (.tmp 10) = iv t := q0; exact ⟨rfl, by simp [go_sem, q0e]⟩) ?_
              refine tab_val (.pointer (some ⟨gs, os + t * 3, none⟩)) (fun r w1 hr hg hA => by obtain ⟨⟨_, q0⟩, ⟨_, q1⟩, -⟩ := hA; have q0e : r (.tmp 75) = .slice (some ⟨gs, os, none⟩) ll cs := q0; have q1e : r (.tmp 76) = iv t := q1; exact ⟨rfl, by simp [go_sem, q0e, q1e, htl]⟩) ?_
              refine tab_val (en (ra, rb, rc)) (fun r w1 hr hg hA => by obtain ⟨⟨_, q0⟩, -⟩ := hA; have q0e : r (.tmp 77) = .pointer (some ⟨gs, os + t * 3, none⟩) := q0; have hc := CF19.out _ (hg1.trans hg); exact ⟨rfl, by simp [go_sem, q0e, hc]⟩) ?_
              refine tab_val (en (xa, xb, xc)) (fun r w1 hr hg hA => by obtain ⟨q0, -⟩ := hA; have q0e : r (.tmp 6) = .pointer (some ⟨w3.heap.size, 0, none⟩) := q0; have hc := CF19.out _ (hg1.trans hg); exact ⟨rfl, by simp [go_sem, q0e, hc]⟩) ?_
              refine tab_val (.bool (beqE (ra, rb, rc) (xa, xb, xc))) (fun r w1 hr hg hA => by obtain ⟨⟨_, q0⟩, ⟨_, q1⟩, -⟩ := hA; have q0e : r (.tmp 78) = en (ra, rb, rc) := q0; have q1e : r (.tmp 79) = en (xa, xb, xc) := q1; exact ⟨rfl, by simp [go_sem, q0e, q1e, eqIf]⟩) ?_
              refine tab_end ?_
              simp only [List.reverse_cons, List.reverse_nil, List.nil_append, List.cons_append, Out, BlockP, forall_eq, forall_const, Act.put, List.setIfInBounds_toArray, List.set_cons_succ, List.set_cons_zero]
              intro wA hgA
              have GB := Lib.hid (GI2.out.trans (hg1.trans hgA))
              clear hg1 hgA hg1' hw0
              by_cases hr : ((ra, rb, rc) : Ent3) = (xa, xb, xc)
              · rw [beqE_yes hr]
                have C2 := C2s.1 hr
                go_wp2
                refine ⟨⟨t + 1, by simp, by first | (rw [C1.out]; done) | (rw [C1.out]; simp), by first | (rw [C2.out]; done) | (rw [C2.out]; simp), by omega, GB.out⟩, by simp only [intOf]; omega⟩
              · rw [beqE_no hr]
                have C2 := C2s.2 hr
                go_wp2
                refine ⟨⟨t + 1, by simp, by first | (rw [C1.out]; done) | (rw [C1.out]; simp), by first | (rw [C2.out]; done) | (rw [C2.out]; simp), by omega, GB.out⟩, by simp only [intOf]; omega⟩

            · rw [beqE_no hq]
              have C1 := HC1.out.2 hq
              have C2s := HC2.out
              go_wp2_with fail
              refine wp_region_tab 6 (by kernel_rfl) (by kernel_rfl) ?_
              intro w0 hw0 hg1 hg1'
              simp only [List.take_succ_cons, List.take_zero, List.drop_succ_cons, List.drop_zero]
              refine tab_val (.slice (some ⟨gs, os, none⟩) ll cs) (fun r w1 hr hg hA => by obtain ⟨q0, -⟩ := hA; have q0e : r (.tmp 4) = .slice (some ⟨gs, os, none⟩) ll cs := q0; exact ⟨rfl, by simp [go_sem, q0e]⟩) ?_
              refine tab_val (iv t) (fun r w1 hr hg hA => by obtain ⟨q0, -⟩ := hA; have q0e : r (.tmp 10) = iv t := q0; exact ⟨rfl, by simp [go_sem, q0e]⟩) ?_
              refine tab_val (.pointer (some ⟨gs, os + t * 3, none⟩)) (fun r w1 hr hg hA => by obtain ⟨⟨_, q0⟩, ⟨_, q1⟩, -⟩ := hA; have q0e : r (.tmp 75) = .slice (some ⟨gs, os, none⟩) ll cs := q0; have q1e : r (.tmp 76) = iv t := q1; exact ⟨rfl, by simp [go_sem, q0e, q1e, htl]⟩) ?_
              refine tab_val (en (ra, rb, rc)) (fun r w1 hr hg hA => by obtain ⟨⟨_, q0⟩, -⟩ := hA; have q0e : r (.tmp 77) = .pointer (some ⟨gs, os + t * 3, none⟩) := q0; have hc := CF19.out _ (hg1.trans hg); exact ⟨rfl, by simp [go_sem, q0e, hc]⟩) ?_
              refine tab_val (en (xa, xb, xc)) (fun r w1 hr hg hA => by obtain ⟨q0, -⟩ := hA; have q0e : r (.tmp 6) = .pointer (some ⟨w3.heap.size, 0, none⟩) := q0; have hc := CF19.out _ (hg1.trans hg); exact ⟨rfl, by simp [go_sem, q0e, hc]⟩) ?_
              refine tab_val (.bool (beqE (ra, rb, rc) (xa, xb, xc))) (fun r w1 hr hg hA => by obtain ⟨⟨_, q0⟩, ⟨_, q1⟩, -⟩ := hA; have q0e : r (.tmp 78) = en (ra, rb, rc) := q0; have q1e : r (.tmp 79) = en (xa, xb, xc) := q1; exact ⟨rfl, by simp [go_sem, q0e, q1e, eqIf]⟩) ?_
              refine tab_end ?_
              simp only [List.reverse_cons, List.reverse_nil, List.nil_append, List.cons_append, Out, BlockP, forall_eq, forall_const, Act.put, List.setIfInBounds_toArray, List.set_cons_succ, List.set_cons_zero]
              intro wA hgA
              have GB := Lib.hid (GI2.out.trans (hg1.trans hgA))
              clear hg1 hgA hg1' hw0
              by_cases hr : ((ra, rb, rc) : Ent3) = (xa, xb, xc)
              · rw [beqE_yes hr]
                have C2 := C2s.1 hr
                go_wp2
                refine ⟨⟨t + 1, by simp, by first | (rw [C1.out]; done) | (rw [C1.out]; simp), by first | (rw [C2.out]; done) | (rw [C2.out]; simp), by omega, GB.out⟩, by simp only [intOf]; omega⟩
              · rw [beqE_no hr]
                have C2 := C2s.2 hr
                go_wp2
                refine ⟨⟨t + 1, by simp, by first | (rw [C1.out]; done) | (rw [C1.out]; simp), by first | (rw [C2.out]; done) | (rw [C2.out]; simp), by omega, GB.out⟩, by simp only [intOf]; omega⟩
          · have hte : t = ll := by omega
            subst hte
            have E1 : Hid ((L.take t).count (xa, xb, xc) = ((srtE L).take t).count (xa, xb, xc)) := Lib.hid (by
              rw [List.take_of_length_le (by rw [HL.out]; omega), List.take_of_length_le (by rw [SL.out]; omega), SC.out])
            rw [← E1.out]
            have L1 : (L.take t).count (xa, xb, xc) ≤ 100 := Nat.le_trans List.count_le_length (by rw [List.length_take]; omega)
            generalize (L.take t).count (xa, xb, xc) = c1 at L1 ⊢
            have bcc : ((c1 : Int) == (c1 : Int)) = true := by simp
            have GE := Lib.hid (GA.out.trans GI.out)
            have G3E := Lib.hid (((Grows.refl w3).al (.cells #[.int .i64 xa, .int .i64 xb, .int .i64 xc] 30)).trans (GW.out.trans GI.out))
            have HI := Lib.hid hiL
            clear L1 hil ht hiL
            have hil2 : i < 100 := by have := HI.out; have := HL3.out; omega
            go_wp2
            refine ⟨⟨i + 1, popF L', v3, by simp, ?_, HSR3.out, HP3.out, H3.out.grows G3E.out, HF3.out, HE3.out.grows G3E.out, GE.out⟩, ?_⟩
            · have := HI.out; have := HL3.out; omega
            · simp only [intOf]; omega
    · have hil' : i = ll := by omega
      subst hil'
      have hL0 : L' = [] := List.length_eq_zero_iff.1 (by omega)
      subst hL0
      go_wp2_with fail
      refine (kn_any _).mono ?_
      rintro _ w4 ⟨rfl, hg⟩
      have H4 := Lib.hid (HA.out.grows hg)
      have G4 := Lib.hid (G.out.trans hg)
      clear hg HA G HFA
      go_wp2_with fail
      refine (len_heap H4.out (by simp)).mono ?_
      rintro _ w5 ⟨rfl, hg⟩
      have G5 := Lib.hid (G4.out.trans hg)
      clear hg
      go_wp2
      go_ret
      exact ⟨rfl, G5.out⟩
end Go.Proofs.Ytcmlcoedgfehgaa
