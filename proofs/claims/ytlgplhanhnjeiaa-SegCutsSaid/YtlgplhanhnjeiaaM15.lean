/-
  Layer 2: the document's number at a line, a number without its sign; what comes twice in a row left out.
-/
import Derived.Test.YtlgplhanhnjeiaaM14
import Derived.Test.YtlgplhanhnjeiaaM12
namespace Go.Proofs.Ytlgplhanhnjeiaa
open Go.RowKit Go.Tab Go.Sort

theorem rabs_any (n : Int) (w : World) (h1 : -9223372036854775807 ≤ n) (h2 : n ≤ 9223372036854775807) : Calls Try.prog 34 #[.int .i64 n] w (Ret (.int .i64 (absI n)) w) := by
  unfold absI
  by_cases h : 0 ≤ n
  · rw [if_pos h]
    have h' : ¬ n < 0 := by omega
    go_enter Try.func34, Try.ntmps34
    go_wp2
    go_ret
    exact ⟨rfl, Grows.refl _⟩
  · rw [if_neg h]
    have h' : n < 0 := by omega
    go_enter Try.func34, Try.ntmps34
    go_wp2
    go_ret
    exact ⟨ret_int (by omega), Grows.refl _⟩
theorem right2_of {x y u v : Int} (ma : mayB x y = true) (mb : mayB u v = true) : rightB [(x, y), (u, v)] = true := by
  simp only [rightB, List.all_cons, List.all_nil, Bool.and_true, Bool.and_eq_true]; exact ⟨ma, mb⟩
set_option maxHeartbeats 4000000 in
theorem rat_any (x y u v c : Int) (w : World) (ma : mayB x y = true) (mb : mayB u v = true) : Calls Try.prog 18 #[.int .i64 x, .int .i64 y, .int .i64 u, .int .i64 v, .int .i64 c] w (Ret (pair (atX (x, y) (u, v) c).1 (atX (x, y) (u, v) c).2) w) := by
  obtain ⟨p1, p2, p3, p4⟩ := mayB_iff.1 ma
  obtain ⟨q1, q2, q3, q4⟩ := mayB_iff.1 mb
  have hr1 := right2_of ma mb
  have hr2 := right2_of mb ma
  by_cases hA : x < c ∧ c < u
  · obtain ⟨h1, h2⟩ := hA
    have HZ : Hid (atX (x, y) (u, v) c = ((2 * (y * (u - c) + v * (c - x)) + (u - x)) / (2 * (u - x)), true)) := Lib.hid (by
      unfold atX
      rw [if_neg (show ¬ (u, v).1 < (x, y).1 from by show ¬ u < x; omega)]
      unfold atF
      rw [if_neg (by rw [hr1]; intro h; rcases h with h | h; cases h; simp only at h; omega)]
      simp only
      rw [show y * (u - x) + (c - x) * (v - y) = y * (u - c) + v * (c - x) by grind])
    obtain ⟨u1, v1⟩ := @mul_bd y (u - c) 16777216 33554432 (by omega) (by omega) (by omega) (by omega)
    obtain ⟨u2, v2⟩ := @mul_bd v (c - x) 16777216 33554432 (by omega) (by omega) (by omega) (by omega)
    have HB : Hid (divB (y * (u - c) + v * (c - x)) (u - x) = true) := Lib.hid (by rw [divB_iff]; omega)
    have HD := Lib.hid (rround_any (y * (u - c) + v * (c - x)) (u - x))
    have hd : ¬ u - x < 0 := by omega
    clear hr1 hr2
    go_enter Try.func18, Try.ntmps18
    go_wp2_with fail
    refine (HD.out _ HB.out).mono ?_
    rintro _ w7 ⟨rfl, hg⟩
    go_wp2
    go_ret2
    exact ⟨by rw [HZ.out]; rfl, hg⟩
  · by_cases hB : u < c ∧ c < x
    · obtain ⟨h1, h2⟩ := hB
      have h0 : ¬ x < c := by omega
      have HZ : Hid (atX (x, y) (u, v) c = ((2 * -(y * (u - c) + v * (c - x)) + -(u - x)) / (2 * -(u - x)), true)) := Lib.hid (by
        unfold atX
        rw [if_pos (show (u, v).1 < (x, y).1 from by show u < x; omega)]
        unfold atF
        rw [if_neg (by rw [hr2]; intro h; rcases h with h | h; cases h; simp only at h; omega)]
        simp only
        rw [show v * (x - u) + (c - u) * (y - v) = -(y * (u - c) + v * (c - x)) by grind, show x - u = -(u - x) by omega])
      obtain ⟨u1, v1⟩ := @mul_bd y (u - c) 16777216 33554432 (by omega) (by omega) (by omega) (by omega)
      obtain ⟨u2, v2⟩ := @mul_bd v (c - x) 16777216 33554432 (by omega) (by omega) (by omega) (by omega)
      have HB : Hid (divB (-(y * (u - c) + v * (c - x))) (-(u - x)) = true) := Lib.hid (by rw [divB_iff]; omega)
      have HD := Lib.hid (rround_any (-(y * (u - c) + v * (c - x))) (-(u - x)))
      have hd : u - x < 0 := by omega
      clear hr1 hr2 hA
      go_enter Try.func18, Try.ntmps18
      go_wp2_with fail
      refine (HD.out _ HB.out).mono ?_
      rintro _ w7 ⟨rfl, hg⟩
      go_wp2
      go_ret2
      exact ⟨by rw [HZ.out]; rfl, hg⟩
    · have HZ : Hid (atX (x, y) (u, v) c = (0, false)) := Lib.hid (by
        unfold atX
        split
        · rename_i hs
          simp only at hs ⊢
          unfold atF
          rw [if_pos (.inr (by omega))]
        · rename_i hs
          simp only at hs ⊢
          unfold atF
          rw [if_pos (.inr (by omega))])
      clear hr1 hr2
      by_cases h1 : x < c
      · have h2 : ¬ c < u := fun h => hA ⟨h1, h⟩
        have h4 : ¬ c < x := by omega
        clear hA hB
        by_cases h3 : u < c
        all_goals
          go_enter Try.func18, Try.ntmps18
          go_wp2
          go_ret2
          exact ⟨by rw [HZ.out]; rfl, Grows.refl _⟩
      · by_cases h3 : u < c
        · have h4 : ¬ c < x := fun h => hB ⟨h3, h⟩
          clear hA hB
          go_enter Try.func18, Try.ntmps18
          go_wp2
          go_ret2
          exact ⟨by rw [HZ.out]; rfl, Grows.refl _⟩
        · clear hA hB
          go_enter Try.func18, Try.ntmps18
          go_wp2
          go_ret2
          exact ⟨by rw [HZ.out]; rfl, Grows.refl _⟩

/-- What comes twice in a row, once. -/
def dd : Pt → List Pt → List Pt
  | _, [] => []
  | l, p :: r => if p = l then dd l r else p :: dd p r
theorem dedF_all {b : Pt} : ∀ (s : List Cut) (l : Pt), (∀ c ∈ s, c.1 = b) → dedF b l s = []
  | [], _, _ => rfl
  | c :: r, l, h => by
    rw [dedF, if_pos (.inr (h c List.mem_cons_self))]
    exact dedF_all r l (fun x hx => h x (List.mem_cons_of_mem _ hx))
theorem dd_eq {a b : Pt} : ∀ (s : List Cut) (l : Pt), s.Pairwise (fun c d => leP a b c.1 d.1) → (∀ c ∈ s, leP a b l c.1) → (∀ c ∈ s, leP a b c.1 b) → leP a b l b →
    dd l (s.map (·.1) ++ [b]) = if l = b then [] else dedF b l s ++ [b]
  | [], l, _, _, _, _ => by
    simp only [List.map_nil, List.nil_append, dd, dedF]
    by_cases h : l = b
    · rw [if_pos h, if_pos h.symm]
    · rw [if_neg h, if_neg (fun e => h e.symm)]
  | c :: r, l, hp, h1, h2, h3 => by
    rw [List.pairwise_cons] at hp
    have r1 : ∀ x ∈ r, leP a b l x.1 := fun x hx => h1 x (List.mem_cons_of_mem _ hx)
    have r2 : ∀ x ∈ r, leP a b x.1 b := fun x hx => h2 x (List.mem_cons_of_mem _ hx)
    have hc := h1 c List.mem_cons_self
    have hcb := h2 c List.mem_cons_self
    rw [List.map_cons, List.cons_append, dd]
    by_cases e : c.1 = l
    · rw [if_pos e, dd_eq r l hp.2 r1 r2 h3, show dedF b l (c :: r) = dedF b l r by rw [dedF, if_pos (.inl e)]]
    · rw [if_neg e]
      have hlb : l ≠ b := fun hlb => e (leP_anti (by rw [hlb]; exact hcb) hc)
      rw [if_neg hlb, dd_eq r c.1 hp.2 hp.1 r2 hcb, dedF]
      by_cases e2 : c.1 = b
      · rw [if_pos e2, if_pos (.inr e2), dedF_all r l (fun x hx => leP_anti (r2 x hx) (by have := hp.1 x hx; rw [e2] at this; exact this)), e2]; rfl
      · rw [if_neg e2, if_neg (fun h => h.elim e e2)]; rfl
/-- The document's way: both ends, what comes twice left out, without the ends. -/
theorem cuts_dd {a b : Pt} {xs ys : List Int} {s : List Cut} {L : List Pt} (hL : IsCuts a b xs ys L) (hp : s.Perm (cutsF a b xs ys)) (hs : ByFrac s) :
    ((a :: dd a (s.map (·.1) ++ [b])).length < 3 → L = []) ∧ (¬ (a :: dd a (s.map (·.1) ++ [b])).length < 3 → L.length + 2 = (a :: dd a (s.map (·.1) ++ [b])).length ∧ ((a :: dd a (s.map (·.1) ++ [b])).drop 1).take L.length = L) := by
  obtain rfl := hL.uniq (isCuts_of hp hs)
  have hg : ∀ c ∈ s, goodC a b c := fun c hc => cuts_good (hp.mem_iff.1 hc)
  have h1 : s.Pairwise (fun c d => leP a b c.1 d.1) := by
    refine List.Pairwise.imp_of_mem ?_ hs
    intro c d hc hd h
    exact good_le (hg c hc) (hg d hd) h
  rw [dd_eq s a h1 (fun c hc => good_a (hg c hc)) (fun c hc => good_b (hg c hc)) ⟨leD_ab _ _, leD_ab _ _⟩]
  by_cases hab : a = b
  · rw [if_pos hab]
    refine ⟨fun _ => ?_, fun h => absurd (by simp) h⟩
    subst hab
    cases hd : dedF a a s with
    | nil => rfl
    | cons p l =>
      have hm : p ∈ dedF a a s := by rw [hd]; exact List.mem_cons_self
      have h2 := (hL.ends hm).1
      have h3 := ((hL.2 p).1 hm).1
      exact (h3 (Prod.ext (h2.1.2.2 rfl).symm (h2.2.2.2 rfl).symm)).elim
  · rw [if_neg hab]
    refine ⟨fun h => ?_, fun _ => ⟨by simp, by simp⟩⟩
    simp only [List.length_cons, List.length_append, List.length_nil] at h
    exact List.eq_nil_of_length_eq_zero (by omega)
end Go.Proofs.Ytlgplhanhnjeiaa
