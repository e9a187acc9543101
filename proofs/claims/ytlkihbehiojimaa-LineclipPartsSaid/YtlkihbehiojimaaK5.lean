/-
  Layer 22: whether an edge enters a box.
-/
import Derived.Test.YtlkihbehiojimaaK4
namespace Go.Proofs.Ytlkihbehiojimaa
open Go.RowKit Go.Tab Go.WideShapes

def cornersOf (b : BoxI) : List (Int × Int) := [(b.lx, b.ly), (b.hx, b.ly), (b.hx, b.hy), (b.lx, b.hy)]
def leftK (px py qx qy : Int) (b : BoxI) (k : Nat) : Bool := ((cornersOf b).take k).any fun c => decide (0 < signI (crossI px py qx qy c.1 c.2))
def rightK (px py qx qy : Int) (b : BoxI) (k : Nat) : Bool := ((cornersOf b).take k).any fun c => decide (signI (crossI px py qx qy c.1 c.2) < 0)
theorem sign_pos (n : Int) : decide (0 < signI n) = decide (0 < n) := by unfold signI; split <;> (try split) <;> simp_all <;> omega
theorem sign_neg (n : Int) : decide (signI n < 0) = decide (n < 0) := by unfold signI; split <;> (try split) <;> simp_all <;> omega
theorem leftK4 (px py qx qy : Int) (b : BoxI) : leftK px py qx qy b 4 = leftB px py qx qy b := by simp [leftK, leftB, cornersOf, sign_pos, Bool.or_assoc]
theorem rightK4 (px py qx qy : Int) (b : BoxI) : rightK px py qx qy b 4 = rightSB px py qx qy b := by simp [rightK, rightSB, cornersOf, sign_neg, Bool.or_assoc]
theorem leftK_succ (px py qx qy : Int) (b : BoxI) (k : Nat) (hk : k < 4) : leftK px py qx qy b (k + 1) = (leftK px py qx qy b k || decide (0 < signI (crossI px py qx qy ((cornersOf b).getD k (0, 0)).1 ((cornersOf b).getD k (0, 0)).2))) := by
  unfold leftK
  rw [List.take_succ_eq_append_getElem (show k < (cornersOf b).length from hk), List.any_append, List.getD_eq_getElem?_getD, List.getElem?_eq_getElem (show k < (cornersOf b).length from hk)]
  simp
theorem rightK_succ (px py qx qy : Int) (b : BoxI) (k : Nat) (hk : k < 4) : rightK px py qx qy b (k + 1) = (rightK px py qx qy b k || decide (signI (crossI px py qx qy ((cornersOf b).getD k (0, 0)).1 ((cornersOf b).getD k (0, 0)).2) < 0)) := by
  unfold rightK
  rw [List.take_succ_eq_append_getElem (show k < (cornersOf b).length from hk), List.any_append, List.getD_eq_getElem?_getD, List.getElem?_eq_getElem (show k < (cornersOf b).length from hk)]
  simp
theorem max_if (a b : Int) : (if a < b then b else a) = max a b := by rw [Int.max_def]; split <;> split <;> omega
theorem min_if (a b : Int) : (if b < a then b else a) = min a b := by rw [Int.min_def]; split <;> split <;> omega

set_option maxRecDepth 100000 in
set_option maxHeartbeats 4000000 in
theorem enters_any (px py qx qy : Int) (b : BoxI) (w : World) (hp : mayB px py = true) (hq : mayB qx qy = true) (hl : mayB b.lx b.ly = true) (hh : mayB b.hx b.hy = true) :
    Calls Try.prog 33 #[pt px py, pt qx qy, bx b] w (Ret (.bool (entersB px py qx qy b)) w) := by
  have HT : Hid (∀ k, k < 4 → ∀ w, Calls Try.prog 39 #[pt px py, pt qx qy, pt ((cornersOf b).getD k (0, 0)).1 ((cornersOf b).getD k (0, 0)).2] w (Ret (.int .i64 (signI (crossI px py qx qy ((cornersOf b).getD k (0, 0)).1 ((cornersOf b).getD k (0, 0)).2))) w)) := Lib.hid fun k hk w => by
    have hm : mayB ((cornersOf b).getD k (0, 0)).1 ((cornersOf b).getD k (0, 0)).2 = true := by
      rw [mayB_iff] at hl hh ⊢
      match k, hk with
      | 0, _ => exact hl
      | 1, _ => exact ⟨hh.1, hh.2.1, hl.2.2.1, hl.2.2.2⟩
      | 2, _ => exact hh
      | 3, _ => exact ⟨hl.1, hl.2.1, hh.2.2.1, hh.2.2.2⟩
    have := turn_any px py qx qy ((cornersOf b).getD k (0, 0)).1 ((cornersOf b).getD k (0, 0)).2 w
    unfold crossP at this
    rw [hp, hq, hm] at this
    exact this
  have HS : Hid (∀ k, k < 4 → -1 ≤ signI (crossI px py qx qy ((cornersOf b).getD k (0, 0)).1 ((cornersOf b).getD k (0, 0)).2) ∧ signI (crossI px py qx qy ((cornersOf b).getD k (0, 0)).1 ((cornersOf b).getD k (0, 0)).2) ≤ 1) := Lib.hid fun k _ => by unfold signI; split <;> (try split) <;> omega
  have HLS := Lib.hid (fun k hk => leftK_succ px py qx qy b k hk)
  have HRS := Lib.hid (fun k hk => rightK_succ px py qx qy b k hk)
  have HL4 := Lib.hid (leftK4 px py qx qy b)
  have HR4 := Lib.hid (rightK4 px py qx qy b)
  have HE : Hid (entersB px py qx qy b = (!(beyondB px py qx qy b) && leftB px py qx qy b && rightSB px py qx qy b)) := Lib.hid rfl
  have HB : Hid (beyondB px py qx qy b = (decide (max px qx ≤ b.lx) || decide (b.hx ≤ min px qx) || decide (max py qy ≤ b.ly) || decide (b.hy ≤ min py qy))) := Lib.hid rfl
  clear hp hq hl hh
  have hm1 : ∀ a b : Int, (if a < b then b else a) = max a b := max_if
  have hm2 : ∀ a b : Int, (if b < a then b else a) = min a b := min_if
  go_enter Try.func33, Try.ntmps33
  go_wp2_with fail
  all_goals first
    | (go_ret
       exact ⟨ret_bool (by rw [HE.out, show beyondB px py qx qy b = true from (by rw [HB.out]; simp only [Bool.or_eq_true, decide_eq_true_eq]; omega)]; rfl), ((((Grows.refl w).al _).al _).al _)⟩)
    | skip
  have HBN : Hid (beyondB px py qx qy b = false) := Lib.hid (by
    rw [HB.out]
    simp only [Bool.or_eq_false_iff, decide_eq_false_iff_not]
    refine ⟨⟨⟨?_, ?_⟩, ?_⟩, ?_⟩ <;> omega)
  have GW : Hid (Grows w (((w.alloc (.cells #[.int .i64 px, .int .i64 py] 24)).alloc (.cells #[.int .i64 qx, .int .i64 qy] 24)).alloc (.cells #[.int .i64 b.lx, .int .i64 b.ly, .int .i64 b.hx, .int .i64 b.hy] 26))) := Lib.hid (((Grows.refl w).al _).al _ |>.al _)
  have BX : Hid (∀ w', Grows (((w.alloc (.cells #[.int .i64 px, .int .i64 py] 24)).alloc (.cells #[.int .i64 qx, .int .i64 qy] 24)).alloc (.cells #[.int .i64 b.lx, .int .i64 b.ly, .int .i64 b.hx, .int .i64 b.hy] 26)) w' →
      (w'.cell? ⟨w.heap.size, 0, none⟩ = some (.int .i64 px) ∧ w'.cell? ⟨w.heap.size, 1, none⟩ = some (.int .i64 py)) ∧ (w'.cell? ⟨w.heap.size + 1, 0, none⟩ = some (.int .i64 qx) ∧ w'.cell? ⟨w.heap.size + 1, 1, none⟩ = some (.int .i64 qy))) := Lib.hid fun w' hg => by
    have b1 := hg.block ((Grows.alloc _ _).block ((Grows.alloc _ _).block (heap_new w (.cells #[.int .i64 px, .int .i64 py] 24) _ rfl)))
    have b2 := hg.block ((Grows.alloc _ _).block (heap_new (w.alloc (.cells #[.int .i64 px, .int .i64 py] 24)) (.cells #[.int .i64 qx, .int .i64 qy] 24) (w.heap.size + 1) (by simp only [World.size_alloc])))
    have c1 := cells2 b1
    have c2 := cells2 b2
    exact ⟨⟨c1.1, c1.2.1⟩, c2.1, c2.2.1⟩
  clear hm1 hm2
  have HZ : Hid (w.heap.size + 1 + 1 + 1 ≤ ((((w.alloc (.cells #[.int .i64 px, .int .i64 py] 24)).alloc (.cells #[.int .i64 qx, .int .i64 qy] 24)).alloc (.cells #[.int .i64 b.lx, .int .i64 b.ly, .int .i64 b.hx, .int .i64 b.hy] 26)).heap.size)) := Lib.hid (by simp only [World.size_alloc]; omega)
  generalize (((w.alloc (.cells #[.int .i64 px, .int .i64 py] 24)).alloc (.cells #[.int .i64 qx, .int .i64 qy] 24)).alloc (.cells #[.int .i64 b.lx, .int .i64 b.ly, .int .i64 b.hx, .int .i64 b.hy] 26)) = w3 at GW BX HZ ⊢
  go_loopw [7, 8, 73] (fun l r k wr => ∃ j : Nat, k = .int .i64 (j : Int) ∧ j ≤ 4 ∧ l = .bool (leftK px py qx qy b j) ∧ r = .bool (rightK px py qx qy b j) ∧ Grows w3 wr) (fun _ _ k _ => 5 - (intOf k).toNat)
  case atStart => exact ⟨0, rfl, by omega, rfl, rfl, Grows.refl _⟩
  case round =>
    obtain ⟨j, rfl, hj4, rfl, rfl, hg⟩ := hrel
    have G := Lib.hid hg
    clear hg
    by_cases hj : j < 4
    · rcases (show j = 0 ∨ j = 1 ∨ j = 2 ∨ j = 3 by omega) with rfl | rfl | rfl | rfl
      · have hidx : ∀ w, (Instr.index 62 (.agg #[.int .i64 b.lx, .int .i64 b.ly, .int .i64 b.hx, .int .i64 b.ly, .int .i64 b.hx, .int .i64 b.hy, .int .i64 b.lx, .int .i64 b.hy]) (.int .i64 0)).run Try.prog w = .ok (pt b.lx b.ly) w := fun _ => by kernel_rfl
        have HTj : Hid (∀ w, Calls Try.prog 39 #[pt px py, pt qx qy, pt b.lx b.ly] w (Ret (.int .i64 (signI (crossI px py qx qy b.lx b.ly))) w)) := Lib.hid (HT.out 0 (by decide))
        have HSj : -1 ≤ signI (crossI px py qx qy b.lx b.ly) ∧ signI (crossI px py qx qy b.lx b.ly) ≤ 1 := HS.out 0 (by decide)
        have HL : Hid (leftK px py qx qy b 1 = (leftK px py qx qy b 0 || decide (0 < signI (crossI px py qx qy b.lx b.ly)))) := Lib.hid (HLS.out 0 (by decide))
        have HR : Hid (rightK px py qx qy b 1 = (rightK px py qx qy b 0 || decide (signI (crossI px py qx qy b.lx b.ly) < 0))) := Lib.hid (HRS.out 0 (by decide))
        generalize signI (crossI px py qx qy b.lx b.ly) = t at HTj HSj HL HR
        generalize leftK px py qx qy b 0 = lb at HL ⊢
        generalize rightK px py qx qy b 0 = rb at HR ⊢
        obtain ⟨⟨p0, p1⟩, q0, q1⟩ := BX.out _ G.out
        obtain ⟨t1, t2⟩ := HSj
        have hz1 : w.heap.size < wr.heap.size := by have := G.out.size; have := HZ.out; omega
        have hz2 : w.heap.size + 1 < wr.heap.size := by have := G.out.size; have := HZ.out; omega
        clear HT HS HLS HRS
        go_wp2_with fail
        refine (HTj.out _).mono ?_
        rintro _ w4 ⟨rfl, hg⟩
        have G4 := Lib.hid (G.out.trans (((Grows.refl wr).al _).trans hg))
        clear hg p0 p1 q0 q1
        rcases (show t = -1 ∨ t = 0 ∨ t = 1 by omega) with rfl | rfl | rfl <;> cases lb <;> cases rb <;>
          (go_wp2
           exact ⟨⟨1, by simp, by omega, by rw [HL.out]; rfl, by rw [HR.out]; rfl, G4.out⟩, by simp only [intOf]; omega⟩)
      · have hidx : ∀ w, (Instr.index 62 (.agg #[.int .i64 b.lx, .int .i64 b.ly, .int .i64 b.hx, .int .i64 b.ly, .int .i64 b.hx, .int .i64 b.hy, .int .i64 b.lx, .int .i64 b.hy]) (.int .i64 1)).run Try.prog w = .ok (pt b.hx b.ly) w := fun _ => by kernel_rfl
        have HTj : Hid (∀ w, Calls Try.prog 39 #[pt px py, pt qx qy, pt b.hx b.ly] w (Ret (.int .i64 (signI (crossI px py qx qy b.hx b.ly))) w)) := Lib.hid (HT.out 1 (by decide))
        have HSj : -1 ≤ signI (crossI px py qx qy b.hx b.ly) ∧ signI (crossI px py qx qy b.hx b.ly) ≤ 1 := HS.out 1 (by decide)
        have HL : Hid (leftK px py qx qy b 2 = (leftK px py qx qy b 1 || decide (0 < signI (crossI px py qx qy b.hx b.ly)))) := Lib.hid (HLS.out 1 (by decide))
        have HR : Hid (rightK px py qx qy b 2 = (rightK px py qx qy b 1 || decide (signI (crossI px py qx qy b.hx b.ly) < 0))) := Lib.hid (HRS.out 1 (by decide))
        generalize signI (crossI px py qx qy b.hx b.ly) = t at HTj HSj HL HR
        generalize leftK px py qx qy b 1 = lb at HL ⊢
        generalize rightK px py qx qy b 1 = rb at HR ⊢
        obtain ⟨⟨p0, p1⟩, q0, q1⟩ := BX.out _ G.out
        obtain ⟨t1, t2⟩ := HSj
        have hz1 : w.heap.size < wr.heap.size := by have := G.out.size; have := HZ.out; omega
        have hz2 : w.heap.size + 1 < wr.heap.size := by have := G.out.size; have := HZ.out; omega
        clear HT HS HLS HRS
        go_wp2_with fail
        refine (HTj.out _).mono ?_
        rintro _ w4 ⟨rfl, hg⟩
        have G4 := Lib.hid (G.out.trans (((Grows.refl wr).al _).trans hg))
        clear hg p0 p1 q0 q1
        rcases (show t = -1 ∨ t = 0 ∨ t = 1 by omega) with rfl | rfl | rfl <;> cases lb <;> cases rb <;>
          (go_wp2
           exact ⟨⟨2, by simp, by omega, by rw [HL.out]; rfl, by rw [HR.out]; rfl, G4.out⟩, by simp only [intOf]; omega⟩)
      · have hidx : ∀ w, (Instr.index 62 (.agg #[.int .i64 b.lx, .int .i64 b.ly, .int .i64 b.hx, .int .i64 b.ly, .int .i64 b.hx, .int .i64 b.hy, .int .i64 b.lx, .int .i64 b.hy]) (.int .i64 2)).run Try.prog w = .ok (pt b.hx b.hy) w := fun _ => by kernel_rfl
        have HTj : Hid (∀ w, Calls Try.prog 39 #[pt px py, pt qx qy, pt b.hx b.hy] w (Ret (.int .i64 (signI (crossI px py qx qy b.hx b.hy))) w)) := Lib.hid (HT.out 2 (by decide))
        have HSj : -1 ≤ signI (crossI px py qx qy b.hx b.hy) ∧ signI (crossI px py qx qy b.hx b.hy) ≤ 1 := HS.out 2 (by decide)
        have HL : Hid (leftK px py qx qy b 3 = (leftK px py qx qy b 2 || decide (0 < signI (crossI px py qx qy b.hx b.hy)))) := Lib.hid (HLS.out 2 (by decide))
        have HR : Hid (rightK px py qx qy b 3 = (rightK px py qx qy b 2 || decide (signI (crossI px py qx qy b.hx b.hy) < 0))) := Lib.hid (HRS.out 2 (by decide))
        generalize signI (crossI px py qx qy b.hx b.hy) = t at HTj HSj HL HR
        generalize leftK px py qx qy b 2 = lb at HL ⊢
        generalize rightK px py qx qy b 2 = rb at HR ⊢
        obtain ⟨⟨p0, p1⟩, q0, q1⟩ := BX.out _ G.out
        obtain ⟨t1, t2⟩ := HSj
        have hz1 : w.heap.size < wr.heap.size := by have := G.out.size; have := HZ.out; omega
        have hz2 : w.heap.size + 1 < wr.heap.size := by have := G.out.size; have := HZ.out; omega
        clear HT HS HLS HRS
        go_wp2_with fail
        refine (HTj.out _).mono ?_
        rintro _ w4 ⟨rfl, hg⟩
        have G4 := Lib.hid (G.out.trans (((Grows.refl wr).al _).trans hg))
        clear hg p0 p1 q0 q1
        rcases (show t = -1 ∨ t = 0 ∨ t = 1 by omega) with rfl | rfl | rfl <;> cases lb <;> cases rb <;>
          (go_wp2
           exact ⟨⟨3, by simp, by omega, by rw [HL.out]; rfl, by rw [HR.out]; rfl, G4.out⟩, by simp only [intOf]; omega⟩)
      · have hidx : ∀ w, (Instr.index 62 (.agg #[.int .i64 b.lx, .int .i64 b.ly, .int .i64 b.hx, .int .i64 b.ly, .int .i64 b.hx, .int .i64 b.hy, .int .i64 b.lx, .int .i64 b.hy]) (.int .i64 3)).run Try.prog w = .ok (pt b.lx b.hy) w := fun _ => by kernel_rfl
        have HTj : Hid (∀ w, Calls Try.prog 39 #[pt px py, pt qx qy, pt b.lx b.hy] w (Ret (.int .i64 (signI (crossI px py qx qy b.lx b.hy))) w)) := Lib.hid (HT.out 3 (by decide))
        have HSj : -1 ≤ signI (crossI px py qx qy b.lx b.hy) ∧ signI (crossI px py qx qy b.lx b.hy) ≤ 1 := HS.out 3 (by decide)
        have HL : Hid (leftK px py qx qy b 4 = (leftK px py qx qy b 3 || decide (0 < signI (crossI px py qx qy b.lx b.hy)))) := Lib.hid (HLS.out 3 (by decide))
        have HR : Hid (rightK px py qx qy b 4 = (rightK px py qx qy b 3 || decide (signI (crossI px py qx qy b.lx b.hy) < 0))) := Lib.hid (HRS.out 3 (by decide))
        generalize signI (crossI px py qx qy b.lx b.hy) = t at HTj HSj HL HR
        generalize leftK px py qx qy b 3 = lb at HL ⊢
        generalize rightK px py qx qy b 3 = rb at HR ⊢
        obtain ⟨⟨p0, p1⟩, q0, q1⟩ := BX.out _ G.out
        obtain ⟨t1, t2⟩ := HSj
        have hz1 : w.heap.size < wr.heap.size := by have := G.out.size; have := HZ.out; omega
        have hz2 : w.heap.size + 1 < wr.heap.size := by have := G.out.size; have := HZ.out; omega
        clear HT HS HLS HRS
        go_wp2_with fail
        refine (HTj.out _).mono ?_
        rintro _ w4 ⟨rfl, hg⟩
        have G4 := Lib.hid (G.out.trans (((Grows.refl wr).al _).trans hg))
        clear hg p0 p1 q0 q1
        rcases (show t = -1 ∨ t = 0 ∨ t = 1 by omega) with rfl | rfl | rfl <;> cases lb <;> cases rb <;>
          (go_wp2
           exact ⟨⟨4, by simp, by omega, by rw [HL.out]; rfl, by rw [HR.out]; rfl, G4.out⟩, by simp only [intOf]; omega⟩)
    · have hj' : j = 4 := by omega
      subst hj'
      rw [HL4.out, HR4.out]
      have HE2 : Hid (entersB px py qx qy b = (leftB px py qx qy b && rightSB px py qx qy b)) := Lib.hid (by rw [HE.out, HBN.out]; rfl)
      generalize leftB px py qx qy b = lb at HE2 ⊢
      generalize rightSB px py qx qy b = rb at HE2 ⊢
      cases lb <;> cases rb <;>
        (go_wp2
         go_ret
         exact ⟨ret_bool (by rw [HE2.out]; rfl), GW.out.trans G.out⟩)
end Go.Proofs.Ytlkihbehiojimaa
