/-
  Points as rows, whatever their lengths; what is reckoned of three.
-/
import Derived.Test.YtlgplhanhnjeiaaE1
import Derived.Test.YtlgplhanhnjeiaaRA
import Derived.WideShapes
namespace Go.Proofs.Ytlgplhanhnjeiaa
open Go.RowKit Go.Tab Go.WideShapes

/-- A slice that reads as these points. -/
def PtsAt (w : World) (v : Value) (l : List (Int × Int)) : Prop :=
  l.length ≤ 1000000000 ∧ (((∃ a cap, v = .slice a 0 cap ∧ (a = none → cap = 0)) ∧ l = []) ∨ ∃ b off cap, v = .slice (some ⟨b, off, none⟩) l.length cap ∧ b < w.heap.size ∧ l.length ≤ cap ∧
    ∀ i, i < l.length → w.cell? ⟨b, off + i * 2, none⟩ = some (.int .i64 (l.getD i (0, 0)).1) ∧ w.cell? ⟨b, off + i * 2 + 1, none⟩ = some (.int .i64 (l.getD i (0, 0)).2))
theorem PtsAt.grows {w w' : World} {v : Value} {l : List (Int × Int)} (h : PtsAt w v l) (hg : Grows w w') : PtsAt w' v l := by
  obtain ⟨hl, h | ⟨b, off, cap, hv, hb, hcp, hc⟩⟩ := h
  · exact ⟨hl, .inl h⟩
  · refine ⟨hl, .inr ⟨b, off, cap, hv, Nat.lt_of_lt_of_le hb hg.size, hcp, fun i hi => ?_⟩⟩
    rw [Below.cell hg (p := ⟨b, off + i * 2, none⟩) hb, Below.cell hg (p := ⟨b, off + i * 2 + 1, none⟩) hb]
    exact hc i hi
theorem PtsAt.at_cell {w : World} {b off n cap i : Nat} {l : List (Int × Int)} (h : PtsAt w (.slice (some ⟨b, off, none⟩) n cap) l) (hi : i < l.length) :
    w.cell? ⟨b, off + i * 2, none⟩ = some (.int .i64 (l.getD i (0, 0)).1) ∧ w.cell? ⟨b, off + i * 2 + 1, none⟩ = some (.int .i64 (l.getD i (0, 0)).2) := by
  obtain ⟨_, ⟨_, rfl⟩ | ⟨b', off', cap', hv, hb, _, hc⟩⟩ := h
  · cases hi
  · cases hv; exact hc i hi
theorem PtsAt.at_ {w : World} {a : Option Addr} {n cap i : Nat} {l : List (Int × Int)} (h : PtsAt w (.slice a n cap) l) (hi : i < l.length) :
    ∃ b off, a = some ⟨b, off, none⟩ ∧ b < w.heap.size ∧ w.cell? ⟨b, off + i * 2, none⟩ = some (.int .i64 (l.getD i (0, 0)).1) ∧ w.cell? ⟨b, off + i * 2 + 1, none⟩ = some (.int .i64 (l.getD i (0, 0)).2) := by
  obtain ⟨_, ⟨_, rfl⟩ | ⟨b, off, cap', hv, hb, _, hc⟩⟩ := h
  · cases hi
  · cases hv; exact ⟨b, off, rfl, hb, hc i hi⟩
theorem PtsAt.shape {w : World} {v : Value} {l : List (Int × Int)} (h : PtsAt w v l) : ∃ a cap, v = .slice a l.length cap ∧ l.length ≤ cap ∧ (a = none → cap = 0) := by
  obtain ⟨_, ⟨⟨_, _, h, hz⟩, rfl⟩ | ⟨b, off, cap, hv, _, hc, _⟩⟩ := h
  · exact ⟨_, _, h, Nat.zero_le _, hz⟩
  · exact ⟨_, _, hv, hc, fun h => by cases h⟩
theorem PtsAt.take {w : World} {a : Option Addr} {n cap j : Nat} {l : List (Int × Int)} (h : PtsAt w (.slice a n cap) l) (hj : j ≤ n) : PtsAt w (.slice a j cap) (l.take j) := by
  obtain ⟨hl, ⟨⟨_, _, h, hz⟩, rfl⟩ | ⟨b', off', cap', hv, hb, hc, hi⟩⟩ := h
  · cases h
    have : j = 0 := by omega
    subst this
    exact ⟨Nat.zero_le _, .inl ⟨⟨_, _, rfl, hz⟩, rfl⟩⟩
  · cases hv
    have hlen : (l.take j).length = j := by rw [List.length_take]; omega
    refine ⟨by omega, .inr ⟨_, _, _, by rw [hlen], hb, by omega, fun i hi' => ?_⟩⟩
    rw [show (l.take j).getD i (0, 0) = l.getD i (0, 0) by rw [List.getD_eq_getElem?_getD, List.getD_eq_getElem?_getD, List.getElem?_take_of_lt (by omega)]]
    exact hi i (by omega)
theorem PtsAt.drop {w : World} {b off n cap j : Nat} {l : List (Int × Int)} (h : PtsAt w (.slice (some ⟨b, off, none⟩) n cap) l) (hj : j ≤ n) : PtsAt w (.slice (some ⟨b, off + j * 2, none⟩) (n - j) (cap - j)) (l.drop j) := by
  obtain ⟨hl, ⟨⟨_, _, h, hz⟩, rfl⟩ | ⟨b', off', cap', hv, hb, hc, hi⟩⟩ := h
  · cases h
    have : j = 0 := by omega
    subst this
    exact ⟨Nat.zero_le _, .inl ⟨⟨_, _, rfl, fun h => by cases h⟩, rfl⟩⟩
  · cases hv
    have hlen : (l.drop j).length = l.length - j := List.length_drop ..
    refine ⟨by omega, .inr ⟨_, _, _, by rw [hlen], hb, by omega, fun i hi' => ?_⟩⟩
    rw [show (l.drop j).getD i (0, 0) = l.getD (j + i) (0, 0) by rw [List.getD_eq_getElem?_getD, List.getD_eq_getElem?_getD, List.getElem?_drop]]
    have := hi (j + i) (by omega)
    rw [Nat.add_mul, ← Nat.add_assoc] at this
    exact this
theorem pts_nil (w : World) : PtsAt w (.slice none 0 0) [] := ⟨Nat.zero_le _, .inl ⟨⟨_, _, rfl, fun _ => rfl⟩, rfl⟩⟩

def flat (l : List (Int × Int)) : List Value := l.flatMap fun p => [.int .i64 p.1, .int .i64 p.2]
theorem flat_append (l m : List (Int × Int)) : flat (l ++ m) = flat l ++ flat m := by simp [flat]
theorem flat_length (l : List (Int × Int)) : (flat l).length = l.length * 2 := by
  induction l with
  | nil => rfl
  | cons p l ih => simp only [flat, List.flatMap_cons, List.length_append, List.length_cons, List.length_nil] at ih ⊢; omega
theorem flat_get (l : List (Int × Int)) (i : Nat) (h : i < l.length) : (flat l)[i * 2]? = some (.int .i64 (l.getD i (0, 0)).1) ∧ (flat l)[i * 2 + 1]? = some (.int .i64 (l.getD i (0, 0)).2) := by
  induction l generalizing i with
  | nil => cases h
  | cons p l ih =>
    cases i with
    | zero => exact ⟨rfl, rfl⟩
    | succ i =>
      have := ih i (by simpa using h)
      rw [Nat.succ_mul]
      exact this
theorem flat_cell {u : Value} (l : List (Int × Int)) (hu : u ∈ flat l) : u.oneCell' = true := by
  unfold flat at hu
  obtain ⟨p, _, hp⟩ := List.mem_flatMap.1 hu
  simp only [List.mem_cons, List.not_mem_nil, or_false] at hp
  rcases hp with rfl | rfl <;> rfl
theorem flat_at (l : List (Int × Int)) (j : Nat) (u : Value) (h : (flat l)[j]? = some u) : ∃ i, i < l.length ∧ ((j = i * 2 ∧ u = .int .i64 (l.getD i (0, 0)).1) ∨ (j = i * 2 + 1 ∧ u = .int .i64 (l.getD i (0, 0)).2)) := by
  have hj : j < l.length * 2 := by rw [← flat_length]; exact (List.getElem?_eq_some_iff.1 h).1
  refine ⟨j / 2, by omega, ?_⟩
  obtain ⟨h1, h2⟩ := flat_get l (j / 2) (by omega)
  by_cases hm : j % 2 = 0
  · left
    have : j = j / 2 * 2 := by omega
    refine ⟨this, ?_⟩
    rw [← this, h] at h1
    exact Option.some.inj h1
  · right
    have : j = j / 2 * 2 + 1 := by omega
    refine ⟨this, ?_⟩
    rw [← this, h] at h2
    exact Option.some.inj h2

theorem own_pts {w : World} {base : Nat} {E : TypeId} {v : Value} {l : List (Int × Int)} {n : Nat} (h : w.ownsRow base E 2 v n (flat l)) (hn : n = l.length) (hl : l.length ≤ 1000000000) : PtsAt w v l := by
  subst hn
  obtain ⟨_, ⟨h1, h2⟩ | ⟨g, cap, cur, hv, hg, hh, hc, hm, hs, ht⟩⟩ := h
  · have h0 : l.length = 0 := by have := flat_length l; rw [h2] at this; simp at this; omega
    exact ⟨hl, .inl ⟨⟨none, 0, h1, fun _ => rfl⟩, List.length_eq_zero_iff.1 h0⟩⟩
  · refine ⟨hl, .inr ⟨g, 0, cap, hv, (Array.getElem?_eq_some_iff.1 hh).1, hc, fun i hi => ?_⟩⟩
    obtain ⟨f1, f2⟩ := flat_get l i hi
    rw [← ht, List.getElem?_take_of_lt (by omega)] at f1 f2
    simp only [World.cell?, hh, Nat.zero_add]
    constructor
    · show (if false = true then none else cur[i * 2]?) = _
      simpa using f1
    · show (if false = true then none else cur[i * 2 + 1]?) = _
      simpa using f2
theorem pts_block {w : World} {b : Nat} {E : TypeId} {cs : Array Value} {l : List (Int × Int)} (h : w.heap[b]? = some (.cells cs E (0, 0))) (hc : cs.toList = flat l) (hl : l.length ≤ 1000000000) :
    PtsAt w (.slice (some ⟨b, 0, none⟩) l.length l.length) l := by
  refine ⟨hl, .inr ⟨b, 0, l.length, rfl, (Array.getElem?_eq_some_iff.1 h).1, Nat.le_refl _, fun i hi => ?_⟩⟩
  obtain ⟨f1, f2⟩ := flat_get l i hi
  rw [← hc] at f1 f2
  simp only [World.cell?, h, Nat.zero_add]
  constructor
  · show (if false = true then none else cs[i * 2]?) = _
    simpa using f1
  · show (if false = true then none else cs[i * 2 + 1]?) = _
    simpa using f2

theorem PtsAt.row {w : World} {v : Value} {l : List (Int × Int)} (h : PtsAt w v l) : RowAt 2 w v l.length (flat l) := by
  refine ⟨flat_length l, fun x hx => flat_cell l hx, ?_⟩
  obtain ⟨_, ⟨⟨a, cap, hv, hac⟩, rfl⟩ | ⟨b, off, cap, hv, hb, hcp, hc⟩⟩ := h
  · exact .inl ⟨rfl, a, cap, hv, hac⟩
  · refine .inr ⟨b, off, cap, hv, hb, fun j x hx => ?_⟩
    obtain ⟨i, hi, ⟨rfl, rfl⟩ | ⟨rfl, rfl⟩⟩ := flat_at l j x hx
    · exact (hc i hi).1
    · rw [← Nat.add_assoc]; exact (hc i hi).2
theorem flat_take (l : List (Int × Int)) (k : Nat) : flat (l.take k) = (flat l).take (k * 2) := by
  induction l generalizing k with
  | nil => simp [flat]
  | cons p l ih =>
    cases k with
    | zero => simp [flat]
    | succ k =>
      rw [Nat.succ_mul]
      have := ih k
      simp only [flat, List.take_succ_cons, List.flatMap_cons, List.cons_append, List.nil_append] at this ⊢
      rw [this]

def rightB (l : List (Int × Int)) : Bool := l.all fun p => mayB p.1 p.2

theorem take_all_succ (l : List (Int × Int)) (k : Nat) (h : k < l.length) : rightB (l.take (k + 1)) = (rightB (l.take k) && mayB (l.getD k (0, 0)).1 (l.getD k (0, 0)).2) := by
  unfold rightB
  rw [List.take_succ_eq_append_getElem h, List.all_append]
  simp [h]
theorem all_false (l : List (Int × Int)) (k : Nat) (h : k < l.length) (hf : mayB (l.getD k (0, 0)).1 (l.getD k (0, 0)).2 = false) : rightB l = false := by
  unfold rightB
  rw [List.all_eq_false]
  refine ⟨l[k], List.getElem_mem h, ?_⟩
  simp [h] at hf
  simp [hf]

set_option maxHeartbeats 400000 in
theorem right_any (v : Value) (l : List (Int × Int)) (w : World) (hp : PtsAt w v l) : Calls Try.prog 21 #[v] w (Ret (.bool (rightB l)) w) := by
  obtain ⟨hl, ⟨⟨a0, c0, rfl, _⟩, rfl⟩ | ⟨b, off, cap, rfl, hb, hcap, hc⟩⟩ := hp
  · go_enter Try.func21, Try.ntmps21
    go_wp2
    refine wp_loop_rounds 1 ?_; rw [rounds_succ]
    go_wp2
    go_ret
    exact ⟨rfl, Grows.refl _⟩
  · generalize hn : l.length = n at *
    have Hn := Lib.hid hn
    clear hn
    go_enter Try.func21, Try.ntmps21
    go_wp2
    go_loopw [7] (fun i wr => ∃ k : Nat, k ≤ n ∧ i = .int .i64 k ∧ rightB (l.take k) = true ∧ Grows w wr) (fun i _ => n - (intOf i).toNat)
    case atStart => exact ⟨0, Nat.zero_le _, rfl, rfl, Grows.refl _⟩
    case round =>
      obtain ⟨k, hk, rfl, hr, hg⟩ := hrel
      have Hr := Lib.hid hr
      clear hr
      by_cases hlt : k < n
      · obtain ⟨e1, e2⟩ := hc k hlt
        rw [← Below.cell hg (p := ⟨b, off + k * 2, none⟩) hb] at e1
        rw [← Below.cell hg (p := ⟨b, off + k * 2 + 1, none⟩) hb] at e2
        have Ht := Lib.hid (take_all_succ l k (by rw [Hn.out]; exact hlt))
        have Hf := Lib.hid (all_false l k (by rw [Hn.out]; exact hlt))
        generalize (l.getD k (0, 0)).1 = x at e1 Ht Hf
        generalize (l.getD k (0, 0)).2 = y at e2 Ht Hf
        have Hg := Lib.hid hg
        clear hc hg
        go_wp2
        all_goals first
          | (go_ret
             exact ⟨ret_bool (by rw [Hf.out (by rw [← Bool.not_eq_true, mayB_iff]; omega)]), Hg.out.al _⟩)
          | exact ⟨⟨k + 1, by omega, by go_num, by rw [Ht.out, Hr.out, mayB_iff.2 (by omega)]; rfl, Hg.out.al _⟩, by simp [intOf]; omega⟩
      · go_wp2
        go_ret
        obtain rfl : k = n := by omega
        have := Hr.out
        rw [List.take_of_length_le (by rw [Hn.out]; exact Nat.le_refl _)] at this
        exact ⟨ret_bool this.symm, hg⟩

set_option maxHeartbeats 400000 in
theorem all_any (v : Value) (l : List (Int × Int)) (w : World) (hp : PtsAt w v l) : Calls Try.prog 9 #[v] w (Ret (.bool (rightB l)) w) := by
  obtain ⟨hl, ⟨⟨a0, c0, rfl, _⟩, rfl⟩ | ⟨b, off, cap, rfl, hb, hcap, hc⟩⟩ := hp
  · go_enter Try.func9, Try.ntmps9
    go_wp2
    refine wp_loop_rounds 1 ?_; rw [rounds_succ]
    go_wp2
    go_ret
    exact ⟨rfl, Grows.refl _⟩
  · generalize hn : l.length = n at *
    have Hn := Lib.hid hn
    clear hn
    go_enter Try.func9, Try.ntmps9
    go_wp2
    go_loopw [3] (fun i wr => ∃ k : Nat, k ≤ n ∧ i = .int .i64 k ∧ rightB (l.take k) = true ∧ Grows w wr) (fun i _ => n - (intOf i).toNat)
    case atStart => exact ⟨0, Nat.zero_le _, rfl, rfl, Grows.refl _⟩
    case round =>
      obtain ⟨k, hk, rfl, hr, hg⟩ := hrel
      have Hr := Lib.hid hr
      clear hr
      by_cases hlt : k < n
      · obtain ⟨e1, e2⟩ := hc k hlt
        rw [← Below.cell hg (p := ⟨b, off + k * 2, none⟩) hb] at e1
        rw [← Below.cell hg (p := ⟨b, off + k * 2 + 1, none⟩) hb] at e2
        have Ht := Lib.hid (take_all_succ l k (by rw [Hn.out]; exact hlt))
        have Hf := Lib.hid (all_false l k (by rw [Hn.out]; exact hlt))
        generalize (l.getD k (0, 0)).1 = x at e1 Ht Hf
        generalize (l.getD k (0, 0)).2 = y at e2 Ht Hf
        have Hg := Lib.hid hg
        clear hc hg
        cases hm : mayB x y with
        | true =>
          have hcall : ∀ w, Calls Try.prog 14 #[pt x y] w (Ret (.bool true) w) := fun w => by have := may_any x y w; rwa [hm] at this
          have Hm := Lib.hid hm
          clear hm
          have Hcall := Lib.hid hcall
          clear hcall
          go_wp2_with fail
          refine (Hcall.out _).mono ?_
          rintro e w' ⟨rfl, hg'⟩
          have Hg' := Lib.hid hg'
          clear hg'
          go_wp2
          exact ⟨⟨k + 1, by omega, by go_num, by rw [Ht.out, Hr.out, Hm.out]; rfl, Hg.out.trans Hg'.out⟩, by simp [intOf]; omega⟩
        | false =>
          have hcall : ∀ w, Calls Try.prog 14 #[pt x y] w (Ret (.bool false) w) := fun w => by have := may_any x y w; rwa [hm] at this
          have Hm := Lib.hid hm
          clear hm
          have Hcall := Lib.hid hcall
          clear hcall
          go_wp2_with fail
          refine (Hcall.out _).mono ?_
          rintro e w' ⟨rfl, hg'⟩
          have Hg' := Lib.hid hg'
          clear hg'
          go_wp2
          go_ret
          exact ⟨ret_bool (by rw [Hf.out Hm.out]), Hg.out.trans Hg'.out⟩
      · go_wp2
        go_ret
        obtain rfl : k = n := by omega
        have := Hr.out
        rw [List.take_of_length_le (by rw [Hn.out]; exact Nat.le_refl _)] at this
        exact ⟨ret_bool this.symm, hg⟩

/-- A slice that the call built of points. -/
theorem ptsAt3 {w : World} {b : Nat} {T : TypeId} {ax ay bx b_y cx cy : Int} (h : w.heap[b]? = some (.cells #[.int .i64 ax, .int .i64 ay, .int .i64 bx, .int .i64 b_y, .int .i64 cx, .int .i64 cy] T (0, 0))) :
    PtsAt w (.slice (some ⟨b, 0, none⟩) 3 3) [(ax, ay), (bx, b_y), (cx, cy)] := by
  have hlt := (Array.getElem?_eq_some_iff.1 h).1
  refine ⟨by simp, .inr ⟨b, 0, 3, rfl, hlt, by simp, fun i hi => ?_⟩⟩
  simp at hi
  match i, hi with
  | 0, _ => simp [World.cell?, h]
  | 1, _ => simp [World.cell?, h]
  | 2, _ => simp [World.cell?, h]
theorem ptsAt4 {w : World} {b : Nat} {T : TypeId} {ax ay bx b_y cx cy dx dy : Int} (h : w.heap[b]? = some (.cells #[.int .i64 ax, .int .i64 ay, .int .i64 bx, .int .i64 b_y, .int .i64 cx, .int .i64 cy, .int .i64 dx, .int .i64 dy] T (0, 0))) :
    PtsAt w (.slice (some ⟨b, 0, none⟩) 4 4) [(ax, ay), (bx, b_y), (cx, cy), (dx, dy)] := by
  have hlt := (Array.getElem?_eq_some_iff.1 h).1
  refine ⟨by simp, .inr ⟨b, 0, 4, rfl, hlt, by simp, fun i hi => ?_⟩⟩
  simp at hi
  match i, hi with
  | 0, _ => simp [World.cell?, h]
  | 1, _ => simp [World.cell?, h]
  | 2, _ => simp [World.cell?, h]
  | 3, _ => simp [World.cell?, h]

/-- The doubled area. -/
def crossI (ax ay bx b_y cx cy : Int) : Int := (bx - ax) * (cy - ay) - (b_y - ay) * (cx - ax)

set_option maxHeartbeats 400000 in
theorem cross_yes (ax ay bx b_y cx cy : Int) (w : World) (ha : mayB ax ay = true) (hb : mayB bx b_y = true) (hc : mayB cx cy = true) :
    Calls Try.prog 35 #[pt ax ay, pt bx b_y, pt cx cy] w (Ret (.int .i64 (crossI ax ay bx b_y cx cy)) w) := by
  have hR : rightB [(ax, ay), (bx, b_y), (cx, cy)] = true := by simp [rightB, ha, hb, hc]
  have HR := Lib.hid hR
  obtain ⟨a1, a2, a3, a4⟩ := mayB_iff.1 ha
  obtain ⟨b1, b2, b3, b4⟩ := mayB_iff.1 hb
  obtain ⟨c1, c2, c3, c4⟩ := mayB_iff.1 hc
  obtain ⟨p1, q1⟩ := @mul_bd (bx - ax) (cy - ay) 33554432 33554432 (by omega) (by omega) (by omega) (by omega)
  obtain ⟨p2, q2⟩ := @mul_bd (b_y - ay) (cx - ax) 33554432 33554432 (by omega) (by omega) (by omega) (by omega)
  clear ha hb hc hR
  go_enter Try.func35, Try.ntmps35
  go_wp2_with fail
  refine (right_any _ [(ax, ay), (bx, b_y), (cx, cy)] _ (ptsAt3 (heap_new _ _ _ (by simp)))).mono ?_
  rintro e w' ⟨rfl, hg⟩
  rw [HR.out]
  obtain ⟨ho, hf⟩ := hg.old
  have Hg := Lib.hid hg
  clear hg
  go_wp2
  go_ret
  exact ⟨rfl, ((((((Grows.refl w).al _).al _).al _).al _).trans Hg.out)⟩

theorem right3 (ax ay bx b_y cx cy : Int) : rightB [(ax, ay), (bx, b_y), (cx, cy)] = (mayB ax ay && mayB bx b_y && mayB cx cy) := by simp [rightB, Bool.and_assoc]
theorem right4 (ax ay bx b_y cx cy dx dy : Int) : rightB [(ax, ay), (bx, b_y), (cx, cy), (dx, dy)] = (mayB ax ay && mayB bx b_y && mayB cx cy && mayB dx dy) := by simp [rightB, Bool.and_assoc]

set_option maxHeartbeats 400000 in
theorem cross_no (ax ay bx b_y cx cy : Int) (w : World) (h : (mayB ax ay && mayB bx b_y && mayB cx cy) = false) :
    Calls Try.prog 35 #[pt ax ay, pt bx b_y, pt cx cy] w (Ret (.int .i64 0) w) := by
  have HR := Lib.hid ((right3 ax ay bx b_y cx cy).trans h)
  clear h
  go_enter Try.func35, Try.ntmps35
  go_wp2_with fail
  refine (right_any _ [(ax, ay), (bx, b_y), (cx, cy)] _ (ptsAt3 (heap_new _ _ _ (by simp)))).mono ?_
  rintro e w' ⟨rfl, hg⟩
  rw [HR.out]
  have Hg := Lib.hid hg
  clear hg
  go_wp2
  go_ret
  exact ⟨rfl, ((((((Grows.refl w).al _).al _).al _).al _).trans Hg.out)⟩

/-- The program's doubled area of any points. -/
def crossP (ax ay bx b_y cx cy : Int) : Int := if (mayB ax ay && mayB bx b_y && mayB cx cy) = true then crossI ax ay bx b_y cx cy else 0
theorem cross_any (ax ay bx b_y cx cy : Int) (w : World) : Calls Try.prog 35 #[pt ax ay, pt bx b_y, pt cx cy] w (Ret (.int .i64 (crossP ax ay bx b_y cx cy)) w) := by
  unfold crossP
  split
  · rename_i h
    simp only [Bool.and_eq_true] at h
    exact cross_yes _ _ _ _ _ _ w h.1.1 h.1.2 h.2
  · rename_i h
    exact cross_no _ _ _ _ _ _ w (by simpa using h)

theorem crossP_bd (ax ay bx b_y cx cy : Int) : -2251799813685248 ≤ crossP ax ay bx b_y cx cy ∧ crossP ax ay bx b_y cx cy ≤ 2251799813685248 := by
  unfold crossP
  split
  · rename_i h
    simp only [Bool.and_eq_true, mayB_iff] at h
    obtain ⟨p1, q1⟩ := @mul_bd (bx - ax) (cy - ay) 33554432 33554432 (by omega) (by omega) (by omega) (by omega)
    obtain ⟨p2, q2⟩ := @mul_bd (b_y - ay) (cx - ax) 33554432 33554432 (by omega) (by omega) (by omega) (by omega)
    unfold crossI
    omega
  · omega

set_option maxHeartbeats 400000 in
theorem turn_any (ax ay bx b_y cx cy : Int) (w : World) : Calls Try.prog 22 #[pt ax ay, pt bx b_y, pt cx cy] w (Ret (.int .i64 (signI (crossP ax ay bx b_y cx cy))) w) := by
  have Hc := Lib.hid (cross_any ax ay bx b_y cx cy)
  generalize crossP ax ay bx b_y cx cy = n at Hc
  go_enter Try.func22, Try.ntmps22
  go_wp2_with fail
  refine (Hc.out _).mono ?_
  rintro e w' ⟨rfl, hg⟩
  have Hg := Lib.hid hg
  clear hg
  go_wp2
  all_goals
    go_ret
    exact ⟨ret_int (by unfold signI; split <;> (try split) <;> omega), (((((Grows.refl w).al _).al _).al _).trans Hg.out)⟩
end Go.Proofs.Ytlgplhanhnjeiaa
