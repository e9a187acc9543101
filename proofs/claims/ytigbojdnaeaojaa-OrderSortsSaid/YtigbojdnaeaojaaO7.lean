/-
  Layer 4: a row sorted (pts).
-/
import Derived.Test.YtigbojdnaeaojaaO5
import Derived.Test.YtigbojdnaeaojaaO1b
namespace Go.Proofs.Ytigbojdnaeaojaa
open Go.RowKit Go.Tab

set_option maxRecDepth 100000 in
set_option maxHeartbeats 4000000 in
theorem sorted_pts (F : Nat) (cap : Array Value) (R : (Int × Int) → (Int × Int) → Bool) (hF : ∀ args w, Sem.run Try.prog (callFunc F args) w = .ok (.enter F args) w) : ∀ (N : Nat) (l : List (Int × Int)) (v : Value) (w : World), l.length ≤ N → l.length ≤ 1000000 → PtsAt w v l →
    (∀ w', Grows w w' → ∀ x y, x ∈ l → y ∈ l → Calls Try.prog F (#[pt (x).1 (x).2, pt (y).1 (y).2] ++ cap) w' (Ret (.bool (R x y)) w')) →
    Calls Try.prog 29 #[v, .func (.func F) #[] cap] w (fun e w' => ∃ v, e = .returned v ∧ w'.ownsRow w.heap.size 47 2 v (sortF R l).length (flat (sortF R l)) ∧ Grows w w')
  | 0, l, v, w, hN, hl, hp, HA => by
    have : l = [] := List.length_eq_zero_iff.1 (by omega)
    subst this
    obtain ⟨a, cp, rfl, _, hz⟩ := hp.shape
    obtain ⟨i0, hi0, hi1, hi2, hi3⟩ := info_parts infoP
    have Hp := Lib.hid hp
    clear hp HA
    rw [sortF_few (by simp)]
    go_enter Try.func29, Try.ntmps29
    go_wp2_with (at_builtin; refine append_pts rfl _ _ 22 rfl w.heap.size 47 i0 (.agg #[.int .i64 0, .int .i64 0]) 16 Try.underlying22 hi0 hi1 hi2 hi3 rfl (.slice none 0 0) 0 [] rfl (World.ownsRow_nil _ _ _ _) [] _ rfl Hp.out (by simp) (by simp) (Nat.le_refl _) ?_; intro v' w2 hown hgr; have Own := Lib.hid hown; have G := Lib.hid (hgr w (Grows.refl _) (Nat.le_refl _)); clear hown hgr)
    go_ret
    exact ⟨_, rfl, Own.out, G.out⟩
  | N + 1, l, v, w, hN, hl, hp, HA => by
    obtain ⟨i0, hi0, hi1, hi2, hi3⟩ := info_parts infoP
    by_cases hfew : l.length < 2
    · obtain ⟨a, cp, rfl, _, hz⟩ := hp.shape
      have Hp := Lib.hid hp
      clear hp HA
      rw [sortF_few hfew]
      generalize hn : l.length = n at Hp hfew
      have Hn := Lib.hid hn
      clear hn
      go_enter Try.func29, Try.ntmps29
      go_wp2_with (at_builtin; refine append_pts rfl _ _ 22 rfl w.heap.size 47 i0 (.agg #[.int .i64 0, .int .i64 0]) 16 Try.underlying22 hi0 hi1 hi2 hi3 rfl (.slice none 0 0) 0 [] rfl (World.ownsRow_nil _ _ _ _) l _ rfl Hp.out (by rw [Hn.out]; unfold maxLen; omega) (by rw [Hn.out]; omega) (Nat.le_refl _) ?_; intro v' w2 hown hgr; have Own := Lib.hid hown; have G := Lib.hid (hgr w (Grows.refl _) (Nat.le_refl _)); clear hown hgr)
      go_ret
      refine ⟨_, rfl, ?_, G.out⟩
      have := Own.out
      rw [← Hn.out]
      simpa using this
    · obtain ⟨a, cp, rfl, hcp, hz⟩ := hp.shape
      obtain ⟨b, off, rfl, _, _⟩ := hp.at_ (i := 0) (by omega)
      have e1 : (l.take (l.length / 2)).length = l.length / 2 := by rw [List.length_take]; omega
      have e2 : (l.drop (l.length / 2)).length = l.length - l.length / 2 := List.length_drop ..
      have S1 : Hid (∀ w', Grows w w' → Calls Try.prog 29 #[.slice (some ⟨b, off, none⟩) (l.length / 2) cp, .func (.func F) #[] cap] w' (fun e w'' => ∃ v, e = .returned v ∧ PtsAt w'' v (sortF R (l.take (l.length / 2))) ∧ Grows w' w'')) := Lib.hid fun w' hg => by
        refine (sorted_pts F cap R hF N (l.take (l.length / 2)) _ w' (by omega) (by omega) ((hp.grows hg).take (by omega)) fun w2 hg2 x y hx hy => HA w2 (hg.trans hg2) x y (List.mem_of_mem_take hx) (List.mem_of_mem_take hy)).mono ?_
        rintro _ w2 ⟨v, rfl, hown, hg2⟩
        exact ⟨v, rfl, own_pts hown rfl (by rw [sortF_length]; omega), hg2⟩
      have S2 : Hid (∀ w', Grows w w' → Calls Try.prog 29 #[.slice (some ⟨b, off + (l.length / 2) * 2, none⟩) (l.length - l.length / 2) (cp - l.length / 2), .func (.func F) #[] cap] w' (fun e w'' => ∃ v, e = .returned v ∧ PtsAt w'' v (sortF R (l.drop (l.length / 2))) ∧ Grows w' w'')) := Lib.hid fun w' hg => by
        refine (sorted_pts F cap R hF N (l.drop (l.length / 2)) _ w' (by omega) (by omega) ((hp.grows hg).drop (by omega)) fun w2 hg2 x y hx hy => HA w2 (hg.trans hg2) x y (List.mem_of_mem_drop hx) (List.mem_of_mem_drop hy)).mono ?_
        rintro _ w2 ⟨v, rfl, hown, hg2⟩
        exact ⟨v, rfl, own_pts hown rfl (by rw [sortF_length]; omega), hg2⟩
      have S3 : Hid (∀ u1 u2 w', Grows w w' → PtsAt w' u1 (sortF R (l.take (l.length / 2))) → PtsAt w' u2 (sortF R (l.drop (l.length / 2))) → Calls Try.prog 41 #[u1, u2, .func (.func F) #[] cap] w' (fun e w'' => ∃ v, e = .returned v ∧ w''.ownsRow w.heap.size 47 2 v (sortF R l).length (flat (sortF R l)) ∧ Grows w' w'')) := Lib.hid fun u1 u2 w' hg h1 h2 => by
        refine (merged_pts F cap R _ _ u1 u2 w' h1 h2 (by rw [sortF_length]; omega) (by rw [sortF_length]; omega) hF fun w2 hg2 x y hx hy => HA w2 (hg.trans hg2) x y (List.mem_of_mem_drop ((sortF_mem R _ _).1 hx)) (List.mem_of_mem_take ((sortF_mem R _ _).1 hy))).mono ?_
        rw [← sortF_many hfew]
        rintro _ w2 ⟨v, rfl, hown, hg2⟩
        exact ⟨v, rfl, ownsRow_base hown hg.size, hg2⟩
      have hl2 : Hid (wrap64 ((l.length : Int) / 2) = ((l.length / 2 : Nat) : Int)) := Lib.hid (by rw [IntWalk.wrap64_in _ (by omega)]; omega)
      generalize hn : l.length = n at S1 S2 S3 hcp hl2 hfew
      have K0 : n / 2 ≤ n := by omega
      generalize hh : n / 2 = h at S1 S2 S3 hl2 K0
      have K1 : Hid (h ≤ cp) := Lib.hid (by omega)
      have K2 : Hid (h ≤ n) := Lib.hid K0
      have K3 : Hid (n ≤ cp) := Lib.hid hcp
      have K4 : Hid (¬ cp = h) := Lib.hid (by omega)
      clear hp HA e1 e2 hn hh K0 hl hN
      go_enter Try.func29, Try.ntmps29
      go_wp2_with fail
      refine wp_region_tab 12 (by kernel_rfl) (by kernel_rfl) ?_
      intro w0 hw0 hg1 hg1'
      have G0 := Lib.hid (Grows.refl w)
      simp only [List.take_succ_cons, List.take_zero, List.drop_succ_cons, List.drop_zero]
      refine tab_val (.slice (some ⟨b, off, none⟩) n cp) (fun r w1 hr hg hA => by obtain ⟨q0, -⟩ := hA; have q0e : r (.tmp 0) = .slice (some ⟨b, off, none⟩) n cp := q0; exact ⟨rfl, by simp [go_sem, q0e]⟩) ?_
      refine tab_val (.int .i64 (wrap64 ((n : Int) / 2))) (fun r w1 hr hg hA => by obtain ⟨q0, -⟩ := hA; have q0e : r (.tmp 5) = .int .i64 (wrap64 ((n : Int) / 2)) := q0; exact ⟨rfl, by simp [go_sem, q0e]⟩) ?_
      refine tab_val (.slice (some ⟨b, off, none⟩) h cp) (fun r w1 hr hg hA => by obtain ⟨⟨_, q0⟩, ⟨_, q1⟩, -⟩ := hA; have q0e : r (.tmp 14) = .slice (some ⟨b, off, none⟩) n cp := q0; have q1e : r (.tmp 15) = .int .i64 (wrap64 ((n : Int) / 2)) := q1; exact ⟨rfl, by simp [go_sem, q0e, q1e, hl2.out, K1.out]⟩) ?_
      refine tab_val (.func (.func F) #[] cap) (fun r w1 hr hg hA => by obtain ⟨q0, -⟩ := hA; have q0e : r (.tmp 1) = .func (.func F) #[] cap := q0; exact ⟨rfl, by simp [go_sem, q0e]⟩) ?_
      refine tab_callQ (fun v w2 => PtsAt w2 v (sortF R (l.take h))) (fun v w w2 h hg => h.grows hg) (fun r w1 hr hg hA => by obtain ⟨⟨_, q0⟩, ⟨_, q1⟩, -⟩ := hA; have q0e : r (.tmp 16) = .slice (some ⟨b, off, none⟩) h cp := q0; have q1e : r (.tmp 17) = .func (.func F) #[] cap := q1; exact ⟨rfl, _, by simp [go_sem, hr.func, q0e, q1e], S1.out w1 (G0.out.trans (hg1.trans hg))⟩) ?_
      refine tab_val (.slice (some ⟨b, off, none⟩) n cp) (fun r w1 hr hg hA => by obtain ⟨q0, -⟩ := hA; have q0e : r (.tmp 0) = .slice (some ⟨b, off, none⟩) n cp := q0; exact ⟨rfl, by simp [go_sem, q0e]⟩) ?_
      refine tab_val (.int .i64 (wrap64 ((n : Int) / 2))) (fun r w1 hr hg hA => by obtain ⟨q0, -⟩ := hA; have q0e : r (.tmp 5) = .int .i64 (wrap64 ((n : Int) / 2)) := q0; exact ⟨rfl, by simp [go_sem, q0e]⟩) ?_
      refine tab_val (.slice (some ⟨b, off + h * 2, none⟩) (n - h) (cp - h)) (fun r w1 hr hg hA => by obtain ⟨⟨_, q0⟩, ⟨_, q1⟩, -⟩ := hA; have q0e : r (.tmp 19) = .slice (some ⟨b, off, none⟩) n cp := q0; have q1e : r (.tmp 20) = .int .i64 (wrap64 ((n : Int) / 2)) := q1; exact ⟨rfl, by simp [go_sem, q0e, q1e, hl2.out, K1.out, K2.out, K3.out, K4.out]⟩) ?_
      refine tab_val (.func (.func F) #[] cap) (fun r w1 hr hg hA => by obtain ⟨q0, -⟩ := hA; have q0e : r (.tmp 1) = .func (.func F) #[] cap := q0; exact ⟨rfl, by simp [go_sem, q0e]⟩) ?_
      refine tab_callQ (fun v w2 => PtsAt w2 v (sortF R (l.drop h))) (fun v w w2 h hg => h.grows hg) (fun r w1 hr hg hA => by obtain ⟨⟨_, q0⟩, ⟨_, q1⟩, -⟩ := hA; have q0e : r (.tmp 21) = .slice (some ⟨b, off + h * 2, none⟩) (n - h) (cp - h) := q0; have q1e : r (.tmp 22) = .func (.func F) #[] cap := q1; exact ⟨rfl, _, by simp [go_sem, hr.func, q0e, q1e], S2.out w1 (G0.out.trans (hg1.trans hg))⟩) ?_
      refine tab_val (.func (.func F) #[] cap) (fun r w1 hr hg hA => by obtain ⟨q0, -⟩ := hA; have q0e : r (.tmp 1) = .func (.func F) #[] cap := q0; exact ⟨rfl, by simp [go_sem, q0e]⟩) ?_
      refine tab_callQ (fun v w2 => w2.ownsRow w.heap.size 47 2 v (sortF R l).length (flat (sortF R l))) (fun v w w2 h hg => ownsRow_grows h hg) (fun r w1 hr hg hA => by obtain ⟨⟨_, q0⟩, ⟨_, q1⟩, ⟨_, q2⟩, -⟩ := hA; have q2e : r (.tmp 24) = .func (.func F) #[] cap := q2; exact ⟨rfl, _, by simp [go_sem, hr.func, q2e], S3.out _ _ w1 (G0.out.trans (hg1.trans hg)) q0 q1⟩) ?_
      refine tab_end ?_
      simp only [List.reverse_cons, List.reverse_nil, List.nil_append, List.cons_append, Out, BlockP, forall_eq, forall_const, Act.put, List.setIfInBounds_toArray, List.set_cons_succ, List.set_cons_zero]
      intro wA hgA
      have GA := Lib.hid (hg1.trans hgA)
      clear hg1 hgA hg1' hw0
      intro u1 _ u2 _ u3 hu3
      have U3 := Lib.hid hu3
      clear hu3
      go_wp2
      go_ret
      exact ⟨_, rfl, U3.out, GA.out⟩
end Go.Proofs.Ytigbojdnaeaojaa
