/-
  Layer 1: the box of any points; points, as the document's.
-/
import Derived.Test.YtkedcaplbdhmeaaE9
namespace Go.Proofs.Ytkedcaplbdhmeaa
open Go.RowKit Go.Tab

def boxV (l : List (Int × Int)) : Value :=
  if l ≠ [] ∧ rightB l = true then box3v (bx4 l ((l.getD 0 (0, 0)).1, (l.getD 0 (0, 0)).2, (l.getD 0 (0, 0)).1, (l.getD 0 (0, 0)).2)).1 (bx4 l ((l.getD 0 (0, 0)).1, (l.getD 0 (0, 0)).2, (l.getD 0 (0, 0)).1, (l.getD 0 (0, 0)).2)).2.1
    (bx4 l ((l.getD 0 (0, 0)).1, (l.getD 0 (0, 0)).2, (l.getD 0 (0, 0)).1, (l.getD 0 (0, 0)).2)).2.2.1 (bx4 l ((l.getD 0 (0, 0)).1, (l.getD 0 (0, 0)).2, (l.getD 0 (0, 0)).1, (l.getD 0 (0, 0)).2)).2.2.2 true
  else box3v 0 0 0 0 false

theorem box_any (v : Value) (l : List (Int × Int)) (w : World) (hp : PtsAt w v l) : Calls Try.prog 24 #[v] w (Ret (boxV l) w) := by
  have hp0 := hp
  obtain ⟨hl, ⟨rfl, rfl⟩ | ⟨b, off, cap, rfl, hb, hc⟩⟩ := hp
  · have : boxV [] = box3v 0 0 0 0 false := by simp [boxV]
    rw [this]
    exact box_nil _ _ w
  · by_cases hn : l.length = 0
    · rw [hn]
      have : boxV l = box3v 0 0 0 0 false := by rw [List.length_eq_zero_iff.1 hn]; simp [boxV]
      rw [this]
      exact box_nil _ _ w
    · have hne : l ≠ [] := fun h => hn (by rw [h]; rfl)
      have hR : ∀ w1, Grows w w1 → Calls Try.prog 13 #[.slice (some ⟨b, off, none⟩) l.length cap] w1 (Ret (.bool (rightB l)) w1) := fun w1 hg => right_any _ l w1 (hp0.grows hg)
      cases hr : rightB l with
      | false =>
        have : boxV l = box3v 0 0 0 0 false := by simp [boxV, hr]
        rw [this]
        rw [hr] at hR
        exact box_bad b off l.length cap w (by simp [hn]) hn (Lib.hid hR)
      | true =>
        have : boxV l = box3v (bx4 l ((l.getD 0 (0, 0)).1, (l.getD 0 (0, 0)).2, (l.getD 0 (0, 0)).1, (l.getD 0 (0, 0)).2)).1 (bx4 l ((l.getD 0 (0, 0)).1, (l.getD 0 (0, 0)).2, (l.getD 0 (0, 0)).1, (l.getD 0 (0, 0)).2)).2.1
          (bx4 l ((l.getD 0 (0, 0)).1, (l.getD 0 (0, 0)).2, (l.getD 0 (0, 0)).1, (l.getD 0 (0, 0)).2)).2.2.1 (bx4 l ((l.getD 0 (0, 0)).1, (l.getD 0 (0, 0)).2, (l.getD 0 (0, 0)).1, (l.getD 0 (0, 0)).2)).2.2.2 true := by unfold boxV; rw [if_pos ⟨hne, hr⟩]
        rw [this]
        rw [hr] at hR
        refine box_good l b off l.length cap _ _ w (by simp [hn]) (by omega) hl (Lib.hid rfl) hb (Lib.hid rfl) (Lib.hid fun w1 hg i hi => ?_) (Lib.hid hR) _ (Lib.hid rfl)
        rw [Below.cell hg (p := ⟨b, off + i * 2, none⟩) hb, Below.cell hg (p := ⟨b, off + i * 2 + 1, none⟩) hb]
        exact hc i hi

theorem infoP : (Try.prog.info? 24).map (fun i => (i.zero, i.size, i.bytes)) = some (some (.agg #[.int .i64 0, .int .i64 0]), 2, 16) := by kernel_rfl

def flat (l : List (Int × Int)) : List Value := l.flatMap fun p => [.int .i64 p.1, .int .i64 p.2]
theorem flat_length (l : List (Int × Int)) : (flat l).length = l.length * 2 := by
  induction l with
  | nil => rfl
  | cons p l ih => simp only [flat, List.flatMap_cons, List.length_append, List.length_cons, List.length_nil] at ih ⊢; omega
theorem flat_succ (l : List (Int × Int)) (k : Nat) (h : k < l.length) : flat (l.take (k + 1)) = flat (l.take k) ++ [.int .i64 (l.getD k (0, 0)).1, .int .i64 (l.getD k (0, 0)).2] := by
  unfold flat
  rw [List.take_succ_eq_append_getElem h, List.flatMap_append]
  simp [h]
theorem flat_get (l : List (Int × Int)) (i : Nat) (h : i < l.length) : (flat l)[i * 2]? = some (.int .i64 (l.getD i (0, 0)).1) ∧ (flat l)[i * 2 + 1]? = some (.int .i64 (l.getD i (0, 0)).2) := by
  induction l generalizing i with
  | nil => cases h
  | cons p l ih =>
    cases i with
    | zero => exact ⟨rfl, rfl⟩
    | succ i =>
      have := ih i (by simpa using h)
      rw [Nat.succ_mul]
      exact this

theorem ownsPts {w : World} {base : Nat} {T : TypeId} {u : Value} {l : List (Int × Int)} (hl : l.length ≤ 17592186044416) (h : w.ownsRow base T 2 u l.length (flat l)) : PtsAt w u l := by
  obtain ⟨h0, ⟨rfl, hn⟩ | ⟨g, cap, cur, rfl, hb, hh, rest⟩⟩ := id h
  · exact ⟨hl, .inl ⟨rfl, List.length_eq_zero_iff.1 hn⟩⟩
  · refine ⟨hl, .inr ⟨g, 0, cap, rfl, (Array.getElem?_eq_some_iff.1 hh).1, fun i hi => ?_⟩⟩
    obtain ⟨f1, f2⟩ := flat_get l i hi
    have c := World.ownsRow.cells h (g := g) rfl
    have ha : ∀ j, (Addr.mk g 0 none).add j = ⟨g, 0 + j, none⟩ := fun j => by unfold Addr.add; split <;> simp_all
    exact ⟨by rw [← ha]; exact c _ _ f1, by rw [Nat.add_assoc, ← ha]; exact c _ _ f2⟩

theorem ownsRow_grows {w w' : World} {base : Nat} {T : TypeId} {s : Nat} {v : Value} {n : Nat} {xs : List Value} (h : w.ownsRow base T s v n xs) (hg : Grows w w') : w'.ownsRow base T s v n xs := by
  obtain ⟨h0, h1 | ⟨g, cap, cur, hv, hb, hh, rest⟩⟩ := h
  · exact ⟨h0, .inl h1⟩
  · exact ⟨h0, .inr ⟨g, cap, cur, hv, hb, hg.block hh, rest⟩⟩

set_option maxHeartbeats 800000 in
theorem ofs_any (v : Value) (l : List (Int × Int)) (w : World) (hp : PtsAt w v l) (hlen : l.length ≤ 1000) :
    Calls Try.prog 25 #[v] w (fun e w' => ∃ u, e = .returned u ∧ PtsAt w' u l ∧ Grows w w') := by
  obtain ⟨hl, ⟨rfl, rfl⟩ | ⟨b, off, cap, rfl, hb, hc⟩⟩ := hp
  · go_enter Try.func25, Try.ntmps25
    go_wp2
    refine wp_loop_rounds 1 ?_; rw [rounds_succ]
    go_wp2
    go_ret
    exact ⟨_, rfl, ⟨hl, .inl ⟨rfl, rfl⟩⟩, Grows.refl _⟩
  · obtain ⟨i0, hi0, hz0, hz1, hz2⟩ := info_parts infoP
    generalize hn : l.length = n at *
    have Hn := Lib.hid hn
    clear hn
    go_enter Try.func25, Try.ntmps25
    go_wp2
    go_loopw [3, 4] (fun u i wr => ∃ k : Nat, k ≤ n ∧ i = .int .i64 k ∧ wr.ownsRow w.heap.size 24 2 u k (flat (l.take k)) ∧ Grows w wr) (fun _ i _ => n - (intOf i).toNat)
    case atStart => exact ⟨0, Nat.zero_le _, rfl, ⟨rfl, .inl ⟨rfl, rfl⟩⟩, Grows.refl _⟩
    case round =>
      obtain ⟨k, hk, rfl, hown, hg⟩ := hrel
      by_cases hlt : k < n
      · obtain ⟨e1, e2⟩ := hc k hlt
        rw [← Below.cell hg (p := ⟨b, off + k * 2, none⟩) hb] at e1
        rw [← Below.cell hg (p := ⟨b, off + k * 2 + 1, none⟩) hb] at e2
        have Hs := Lib.hid (flat_succ l k (by rw [Hn.out]; exact hlt))
        generalize (l.getD k (0, 0)).1 = x at e1 Hs
        generalize (l.getD k (0, 0)).2 = y at e2 Hs
        have Hg := Lib.hid hg
        have Ho := Lib.hid hown
        have hsz := hg.size
        clear hc hg hown
        go_wp2_with fail
        refine (of_any x y _).mono ?_
        rintro e w1 ⟨rfl, hg1⟩
        have own := Lib.hid (ownsRow_grows (ownsRow_grows Ho.out hg1) (Grows.alloc w1 (.cells #[.int .i64 x, .int .i64 y] 24)))
        have G1 := Lib.hid ((Hg.out.trans hg1).al (.cells #[.int .i64 x, .int .i64 y] 24))
        have hs1 := hg1.size
        obtain ⟨n1, n2, _, _⟩ := cells2 (heap_new w1 (.cells #[.int .i64 x, .int .i64 y] 24) _ rfl)
        clear hg1
        have Hc : Hid (∀ j u, [Value.int .i64 x, Value.int .i64 y][j]? = some u → (w1.alloc (.cells #[.int .i64 x, .int .i64 y] 24)).cell? (Addr.add ⟨w1.heap.size, 0, none⟩ j) = some u) := Lib.hid fun j u h => by
          match j, h with
          | 0, h => cases h; exact n1
          | 1, h => cases h; exact n2
          | j + 2, h => simp at h
        clear n1 n2
        go_wp2_with (at_builtin; refine wpList_append_own _ rfl _ _ 31 rfl w.heap.size 24 i0 (.agg #[.int .i64 0, .int .i64 0]) 2 16 Try.underlying31 hi0 hz0 hz1 hz2 rfl (by decide) _ k _ rfl own.out ⟨w1.heap.size, 0, none⟩ 1 1 [.int .i64 x, .int .i64 y] rfl rfl Hc.out (fun u hu => by simp only [List.mem_cons, List.not_mem_nil, or_false] at hu; rcases hu with rfl | rfl <;> rfl) (by unfold maxLen; omega) (by omega) (by simp only [World.size_alloc]; omega) ?_; intro v' w2 hown2 hgrow _; have Ho2 := Lib.hid hown2; have Hg2 := Lib.hid hgrow; clear hown2 hgrow)
        refine ⟨⟨k + 1, hlt, by simp, by rw [Hs.out]; exact Ho2.out, Below.grown G1.out Hg2.out (by simp only [World.size_alloc]; omega) (fun kk hkk => ?_)⟩, by simp only [intOf]; omega⟩
        obtain ⟨_, ⟨rfl, _⟩ | ⟨g, cap, cur, rfl, hb, _⟩⟩ := Ho.out
        · cases hkk
        · cases hkk; exact hb
      · have hkn : k = n := by omega
        subst hkn
        go_wp2
        go_ret
        refine ⟨_, rfl, ownsPts (base := w.heap.size) (T := 24) (by rw [Hn.out]; exact hl) ?_, hg⟩
        rw [List.take_of_length_le (by rw [Hn.out]; exact Nat.le_refl _)] at hown
        rw [Hn.out]
        exact hown
end Go.Proofs.Ytkedcaplbdhmeaa
