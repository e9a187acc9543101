/-
  Layer 1: lists of points, and what is reckoned of three.
-/
import Derived.Test.YtkedcaplbdhmeaaE1
namespace Go.Proofs.Ytkedcaplbdhmeaa
open Go.RowKit Go.Tab

/-- A slice that reads as these points. -/
def PtsAt (w : World) (v : Value) (l : List (Int × Int)) : Prop :=
  l.length ≤ 17592186044416 ∧ ((v = .slice none 0 0 ∧ l = []) ∨ ∃ b off cap, v = .slice (some ⟨b, off, none⟩) l.length cap ∧ b < w.heap.size ∧
    ∀ i, i < l.length → w.cell? ⟨b, off + i * 2, none⟩ = some (.int .i64 (l.getD i (0, 0)).1) ∧ w.cell? ⟨b, off + i * 2 + 1, none⟩ = some (.int .i64 (l.getD i (0, 0)).2))
theorem PtsAt.grows {w w' : World} {v : Value} {l : List (Int × Int)} (h : PtsAt w v l) (hg : Grows w w') : PtsAt w' v l := by
  obtain ⟨hl, h | ⟨b, off, cap, hv, hb, hc⟩⟩ := h
  · exact ⟨hl, .inl h⟩
  · refine ⟨hl, .inr ⟨b, off, cap, hv, Nat.lt_of_lt_of_le hb hg.size, fun i hi => ?_⟩⟩
    rw [Below.cell hg (p := ⟨b, off + i * 2, none⟩) hb, Below.cell hg (p := ⟨b, off + i * 2 + 1, none⟩) hb]
    exact hc i hi

def rightB (l : List (Int × Int)) : Bool := l.all fun p => mayB p.1 p.2

theorem take_all_succ (l : List (Int × Int)) (k : Nat) (h : k < l.length) : rightB (l.take (k + 1)) = (rightB (l.take k) && mayB (l.getD k (0, 0)).1 (l.getD k (0, 0)).2) := by
  unfold rightB
  rw [List.take_succ_eq_append_getElem h, List.all_append]
  simp [h]
theorem all_false (l : List (Int × Int)) (k : Nat) (h : k < l.length) (hf : mayB (l.getD k (0, 0)).1 (l.getD k (0, 0)).2 = false) : rightB l = false := by
  unfold rightB
  rw [List.all_eq_false]
  refine ⟨l[k], List.getElem_mem h, ?_⟩
  simp [h] at hf
  simp [hf]

set_option maxHeartbeats 400000 in
theorem right_any (v : Value) (l : List (Int × Int)) (w : World) (hp : PtsAt w v l) : Calls Try.prog 13 #[v] w (Ret (.bool (rightB l)) w) := by
  obtain ⟨hl, ⟨rfl, rfl⟩ | ⟨b, off, cap, rfl, hb, hc⟩⟩ := hp
  · go_enter Try.func13, Try.ntmps13
    go_wp2
    refine wp_loop_rounds 1 ?_; rw [rounds_succ]
    go_wp2
    go_ret
    exact ⟨rfl, Grows.refl _⟩
  · generalize hn : l.length = n at *
    have Hn := Lib.hid hn
    clear hn
    go_enter Try.func13, Try.ntmps13
    go_wp2
    go_loopw [7] (fun i wr => ∃ k : Nat, k ≤ n ∧ i = .int .i64 k ∧ rightB (l.take k) = true ∧ Grows w wr) (fun i _ => n - (intOf i).toNat)
    case atStart => exact ⟨0, Nat.zero_le _, rfl, rfl, Grows.refl _⟩
    case round =>
      obtain ⟨k, hk, rfl, hr, hg⟩ := hrel
      have Hr := Lib.hid hr
      clear hr
      by_cases hlt : k < n
      · obtain ⟨e1, e2⟩ := hc k hlt
        rw [← Below.cell hg (p := ⟨b, off + k * 2, none⟩) hb] at e1
        rw [← Below.cell hg (p := ⟨b, off + k * 2 + 1, none⟩) hb] at e2
        have Ht := Lib.hid (take_all_succ l k (by rw [Hn.out]; exact hlt))
        have Hf := Lib.hid (all_false l k (by rw [Hn.out]; exact hlt))
        generalize (l.getD k (0, 0)).1 = x at e1 Ht Hf
        generalize (l.getD k (0, 0)).2 = y at e2 Ht Hf
        have Hg := Lib.hid hg
        clear hc hg
        go_wp2
        all_goals first
          | (go_ret
             exact ⟨ret_bool (by rw [Hf.out (by rw [← Bool.not_eq_true, mayB_iff]; omega)]), Hg.out.al _⟩)
          | exact ⟨⟨k + 1, by omega, by go_num, by rw [Ht.out, Hr.out, mayB_iff.2 (by omega)]; rfl, Hg.out.al _⟩, by simp [intOf]; omega⟩
      · go_wp2
        go_ret
        obtain rfl : k = n := by omega
        have := Hr.out
        rw [List.take_of_length_le (by rw [Hn.out]; exact Nat.le_refl _)] at this
        exact ⟨ret_bool this.symm, hg⟩

set_option maxHeartbeats 400000 in
theorem all_any (v : Value) (l : List (Int × Int)) (w : World) (hp : PtsAt w v l) : Calls Try.prog 14 #[v] w (Ret (.bool (rightB l)) w) := by
  obtain ⟨hl, ⟨rfl, rfl⟩ | ⟨b, off, cap, rfl, hb, hc⟩⟩ := hp
  · go_enter Try.func14, Try.ntmps14
    go_wp2
    refine wp_loop_rounds 1 ?_; rw [rounds_succ]
    go_wp2
    go_ret
    exact ⟨rfl, Grows.refl _⟩
  · generalize hn : l.length = n at *
    have Hn := Lib.hid hn
    clear hn
    go_enter Try.func14, Try.ntmps14
    go_wp2
    go_loopw [3] (fun i wr => ∃ k : Nat, k ≤ n ∧ i = .int .i64 k ∧ rightB (l.take k) = true ∧ Grows w wr) (fun i _ => n - (intOf i).toNat)
    case atStart => exact ⟨0, Nat.zero_le _, rfl, rfl, Grows.refl _⟩
    case round =>
      obtain ⟨k, hk, rfl, hr, hg⟩ := hrel
      have Hr := Lib.hid hr
      clear hr
      by_cases hlt : k < n
      · obtain ⟨e1, e2⟩ := hc k hlt
        rw [← Below.cell hg (p := ⟨b, off + k * 2, none⟩) hb] at e1
        rw [← Below.cell hg (p := ⟨b, off + k * 2 + 1, none⟩) hb] at e2
        have Ht := Lib.hid (take_all_succ l k (by rw [Hn.out]; exact hlt))
        have Hf := Lib.hid (all_false l k (by rw [Hn.out]; exact hlt))
        generalize (l.getD k (0, 0)).1 = x at e1 Ht Hf
        generalize (l.getD k (0, 0)).2 = y at e2 Ht Hf
        have Hg := Lib.hid hg
        clear hc hg
        cases hm : mayB x y with
        | true =>
          have hcall : ∀ w, Calls Try.prog 10 #[pt x y] w (Ret (.bool true) w) := fun w => by have := may_any x y w; rwa [hm] at this
          have Hm := Lib.hid hm
          clear hm
          have Hcall := Lib.hid hcall
          clear hcall
          go_wp2_with fail
          refine (Hcall.out _).mono ?_
          rintro e w' ⟨rfl, hg'⟩
          have Hg' := Lib.hid hg'
          clear hg'
          go_wp2
          exact ⟨⟨k + 1, by omega, by go_num, by rw [Ht.out, Hr.out, Hm.out]; rfl, Hg.out.trans Hg'.out⟩, by simp [intOf]; omega⟩
        | false =>
          have hcall : ∀ w, Calls Try.prog 10 #[pt x y] w (Ret (.bool false) w) := fun w => by have := may_any x y w; rwa [hm] at this
          have Hm := Lib.hid hm
          clear hm
          have Hcall := Lib.hid hcall
          clear hcall
          go_wp2_with fail
          refine (Hcall.out _).mono ?_
          rintro e w' ⟨rfl, hg'⟩
          have Hg' := Lib.hid hg'
          clear hg'
          go_wp2
          go_ret
          exact ⟨ret_bool (by rw [Hf.out Hm.out]), Hg.out.trans Hg'.out⟩
      · go_wp2
        go_ret
        obtain rfl : k = n := by omega
        have := Hr.out
        rw [List.take_of_length_le (by rw [Hn.out]; exact Nat.le_refl _)] at this
        exact ⟨ret_bool this.symm, hg⟩

/-- A slice that the call built of points. -/
theorem ptsAt3 {w : World} {b : Nat} {T : TypeId} {ax ay bx b_y cx cy : Int} (h : w.heap[b]? = some (.cells #[.int .i64 ax, .int .i64 ay, .int .i64 bx, .int .i64 b_y, .int .i64 cx, .int .i64 cy] T (0, 0))) :
    PtsAt w (.slice (some ⟨b, 0, none⟩) 3 3) [(ax, ay), (bx, b_y), (cx, cy)] := by
  have hlt := (Array.getElem?_eq_some_iff.1 h).1
  refine ⟨by simp, .inr ⟨b, 0, 3, rfl, hlt, fun i hi => ?_⟩⟩
  simp at hi
  match i, hi with
  | 0, _ => simp [World.cell?, h]
  | 1, _ => simp [World.cell?, h]
  | 2, _ => simp [World.cell?, h]
theorem ptsAt4 {w : World} {b : Nat} {T : TypeId} {ax ay bx b_y cx cy dx dy : Int} (h : w.heap[b]? = some (.cells #[.int .i64 ax, .int .i64 ay, .int .i64 bx, .int .i64 b_y, .int .i64 cx, .int .i64 cy, .int .i64 dx, .int .i64 dy] T (0, 0))) :
    PtsAt w (.slice (some ⟨b, 0, none⟩) 4 4) [(ax, ay), (bx, b_y), (cx, cy), (dx, dy)] := by
  have hlt := (Array.getElem?_eq_some_iff.1 h).1
  refine ⟨by simp, .inr ⟨b, 0, 4, rfl, hlt, fun i hi => ?_⟩⟩
  simp at hi
  match i, hi with
  | 0, _ => simp [World.cell?, h]
  | 1, _ => simp [World.cell?, h]
  | 2, _ => simp [World.cell?, h]
  | 3, _ => simp [World.cell?, h]

/-- The doubled area. -/
def crossI (ax ay bx b_y cx cy : Int) : Int := (bx - ax) * (cy - ay) - (b_y - ay) * (cx - ax)

set_option maxHeartbeats 400000 in
theorem cross_yes (ax ay bx b_y cx cy : Int) (w : World) (ha : mayB ax ay = true) (hb : mayB bx b_y = true) (hc : mayB cx cy = true) :
    Calls Try.prog 17 #[pt ax ay, pt bx b_y, pt cx cy] w (Ret (.int .i64 (crossI ax ay bx b_y cx cy)) w) := by
  have hR : rightB [(ax, ay), (bx, b_y), (cx, cy)] = true := by simp [rightB, ha, hb, hc]
  have HR := Lib.hid hR
  obtain ⟨a1, a2, a3, a4⟩ := mayB_iff.1 ha
  obtain ⟨b1, b2, b3, b4⟩ := mayB_iff.1 hb
  obtain ⟨c1, c2, c3, c4⟩ := mayB_iff.1 hc
  obtain ⟨p1, q1⟩ := @mul_bd (bx - ax) (cy - ay) 33554432 33554432 (by omega) (by omega) (by omega) (by omega)
  obtain ⟨p2, q2⟩ := @mul_bd (b_y - ay) (cx - ax) 33554432 33554432 (by omega) (by omega) (by omega) (by omega)
  clear ha hb hc hR
  go_enter Try.func17, Try.ntmps17
  go_wp2_with fail
  refine (right_any _ [(ax, ay), (bx, b_y), (cx, cy)] _ (ptsAt3 (heap_new _ _ _ (by simp)))).mono ?_
  rintro e w' ⟨rfl, hg⟩
  rw [HR.out]
  obtain ⟨ho, hf⟩ := hg.old
  have Hg := Lib.hid hg
  clear hg
  go_wp2
  go_ret
  exact ⟨rfl, ((((((Grows.refl w).al _).al _).al _).al _).trans Hg.out)⟩

theorem right3 (ax ay bx b_y cx cy : Int) : rightB [(ax, ay), (bx, b_y), (cx, cy)] = (mayB ax ay && mayB bx b_y && mayB cx cy) := by simp [rightB, Bool.and_assoc]
theorem right4 (ax ay bx b_y cx cy dx dy : Int) : rightB [(ax, ay), (bx, b_y), (cx, cy), (dx, dy)] = (mayB ax ay && mayB bx b_y && mayB cx cy && mayB dx dy) := by simp [rightB, Bool.and_assoc]

set_option maxHeartbeats 400000 in
theorem cross_no (ax ay bx b_y cx cy : Int) (w : World) (h : (mayB ax ay && mayB bx b_y && mayB cx cy) = false) :
    Calls Try.prog 17 #[pt ax ay, pt bx b_y, pt cx cy] w (Ret (.int .i64 0) w) := by
  have HR := Lib.hid ((right3 ax ay bx b_y cx cy).trans h)
  clear h
  go_enter Try.func17, Try.ntmps17
  go_wp2_with fail
  refine (right_any _ [(ax, ay), (bx, b_y), (cx, cy)] _ (ptsAt3 (heap_new _ _ _ (by simp)))).mono ?_
  rintro e w' ⟨rfl, hg⟩
  rw [HR.out]
  have Hg := Lib.hid hg
  clear hg
  go_wp2
  go_ret
  exact ⟨rfl, ((((((Grows.refl w).al _).al _).al _).al _).trans Hg.out)⟩

/-- The program's doubled area of any points. -/
def crossP (ax ay bx b_y cx cy : Int) : Int := if (mayB ax ay && mayB bx b_y && mayB cx cy) = true then crossI ax ay bx b_y cx cy else 0
theorem cross_any (ax ay bx b_y cx cy : Int) (w : World) : Calls Try.prog 17 #[pt ax ay, pt bx b_y, pt cx cy] w (Ret (.int .i64 (crossP ax ay bx b_y cx cy)) w) := by
  unfold crossP
  split
  · rename_i h
    simp only [Bool.and_eq_true] at h
    exact cross_yes _ _ _ _ _ _ w h.1.1 h.1.2 h.2
  · rename_i h
    exact cross_no _ _ _ _ _ _ w (by simpa using h)

theorem crossP_bd (ax ay bx b_y cx cy : Int) : -2251799813685248 ≤ crossP ax ay bx b_y cx cy ∧ crossP ax ay bx b_y cx cy ≤ 2251799813685248 := by
  unfold crossP
  split
  · rename_i h
    simp only [Bool.and_eq_true, mayB_iff] at h
    obtain ⟨p1, q1⟩ := @mul_bd (bx - ax) (cy - ay) 33554432 33554432 (by omega) (by omega) (by omega) (by omega)
    obtain ⟨p2, q2⟩ := @mul_bd (b_y - ay) (cx - ax) 33554432 33554432 (by omega) (by omega) (by omega) (by omega)
    unfold crossI
    omega
  · omega

set_option maxHeartbeats 400000 in
theorem turn_any (ax ay bx b_y cx cy : Int) (w : World) : Calls Try.prog 18 #[pt ax ay, pt bx b_y, pt cx cy] w (Ret (.int .i64 (signI (crossP ax ay bx b_y cx cy))) w) := by
  have Hc := Lib.hid (cross_any ax ay bx b_y cx cy)
  generalize crossP ax ay bx b_y cx cy = n at Hc
  go_enter Try.func18, Try.ntmps18
  go_wp2_with fail
  refine (Hc.out _).mono ?_
  rintro e w' ⟨rfl, hg⟩
  have Hg := Lib.hid hg
  clear hg
  go_wp2
  all_goals
    go_ret
    exact ⟨ret_int (by unfold signI; split <;> (try split) <;> omega), (((((Grows.refl w).al _).al _).al _).trans Hg.out)⟩
end Go.Proofs.Ytkedcaplbdhmeaa
