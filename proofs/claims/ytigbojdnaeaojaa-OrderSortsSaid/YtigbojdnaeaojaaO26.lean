/-
  Layer 4: the document's numbers, each once.
-/
import Derived.Test.YtigbojdnaeaojaaO21
import Derived.Test.YtigbojdnaeaojaaO17
namespace Go.Proofs.Ytigbojdnaeaojaa
open Go.RowKit Go.Tab

set_option maxRecDepth 100000 in
set_option maxHeartbeats 2000000 in
theorem runiq_any (v : Value) (l : List Int) (w : World) (hp : IntsAt w v l) (hl : l.length ≤ 1000) : Calls Try.prog 18 #[v] w (RetInts (runiqF l) w) := by
  obtain ⟨a, cap, rfl, hc, hz⟩ := hp.shape
  have HP := Lib.hid hp
  clear hp hz
  generalize hlen : l.length = n at hc hl HP ⊢
  have HL := Lib.hid hlen
  clear hlen
  go_enter Try.func18, Try.ntmps18
  go_wp2
  go_loopw [3, 4] (fun o' i wr => ∃ (k : Nat) (o : Value) (D : List Int), o = o' ∧ i = iv k ∧ k ≤ n ∧ Hid (D = runiqF (l.take k)) ∧ Hid (wr.ownsRow w.heap.size 3 1 o D.length (D.map iv)) ∧ Hid (Grows w wr)) (fun _ i _ => n + 1 - (intOf i).toNat)
  case atStart => exact ⟨0, _, [], rfl, rfl, Nat.zero_le _, Lib.hid rfl, Lib.hid (World.ownsRow_nil _ _ _ _), Lib.hid (Grows.refl _)⟩
  case round =>
    obtain ⟨k, o, D, rfl, rfl, hk, HD, HO, G⟩ := hrel
    by_cases hlt : k < n
    · obtain ⟨b, off, rfl, hbb, _⟩ := HP.out.at_ (i := k) (by rw [HL.out]; exact hlt)
      have hX : ∀ w', Grows w w' → w'.cell? ⟨b, off + k, none⟩ = some (iv (l.getD k 0)) := fun w' hg => (HP.out.grows hg).at_cell (i := k) (by rw [HL.out]; exact hlt)
      have HX := Lib.hid hX
      have HU : Hid (runiqF (l.take (k + 1)) = runiqStep D (l.getD k 0)) := Lib.hid (by
        rw [List.take_succ_eq_append_getElem (by rw [HL.out]; exact hlt), runiqF_snoc, ← HD.out, List.getD_eq_getElem?_getD, List.getElem?_eq_getElem (by rw [HL.out]; exact hlt)]; rfl)
      obtain ⟨f1, -, f3⟩ := runiqF_facts (l.take k)
      rw [← HD.out] at f1 f3
      have HUP := Lib.hid f1.up
      have HDL : Hid (D.length ≤ 1000) := Lib.hid (by rw [List.length_take] at f3; omega)
      clear hX f1 f3
      generalize l.getD k 0 = x at HX HU
      have c1 := HX.out wr G.out
      have HI := Lib.hid (own_ints HO.out rfl (by have := HDL.out; omega))
      go_wp2_with fail
      refine (rfind_any o D x _ HI.out).mono ?_
      rintro _ w1 ⟨rfl, hg⟩
      have HO1 := Lib.hid (ownsRow_grows HO.out hg)
      have HI1 := Lib.hid (HI.out.grows hg)
      have G1 := Lib.hid (G.out.trans hg)
      clear hg c1
      by_cases hh : hasF x D = true
      · have HUU : Hid (D = runiqF (l.take (k + 1))) := Lib.hid (by rw [HU.out]; unfold runiqStep; rw [if_pos hh])
        rw [hh]
        clear hh
        go_wp2
        exact ⟨⟨k + 1, _, D, rfl, by simp, by omega, HUU, HO1, G1⟩, by simp only [intOf]; omega⟩
      · have HUU : Hid (mergeF ltI D [x] = runiqF (l.take (k + 1))) := Lib.hid (by rw [HU.out]; unfold runiqStep; rw [if_neg hh])
        have hf : hasF x D = false := by simpa using hh
        rw [hf]
        clear hh hf
        have c2 := HX.out w1 G1.out
        go_wp2_with fail
        refine (put_any o D x _ HI1.out (by have := HDL.out; omega) HUP.out).mono ?_
        rintro _ w2 ⟨o2, rfl, ho2, hg⟩
        have HO2 := Lib.hid (ownsRow_base ho2 G1.out.size)
        have G2 := Lib.hid (G1.out.trans hg)
        clear hg ho2 c2
        go_wp2
        exact ⟨⟨k + 1, _, mergeF ltI D [x], rfl, by simp, by omega, HUU, HO2, G2⟩, by simp only [intOf]; omega⟩
    · have hke : k = n := by omega
      subst hke
      have HF : Hid (D = runiqF l) := Lib.hid (by rw [HD.out, List.take_of_length_le (by rw [HL.out]; exact Nat.le_refl _)])
      go_wp2
      go_ret
      exact ⟨_, rfl, by rw [← HF.out]; exact HO.out, G.out⟩
end Go.Proofs.Ytigbojdnaeaojaa
