/-
  Layer 8: the document's bytes of fields.
-/
import Derived.Test.YtmgfbabknehipaaD29
namespace Go.Proofs.Ytmgfbabknehipaa
open Go.RowKit Go.Tab Go.WideShapes

set_option maxRecDepth 100000 in
set_option maxHeartbeats 4000000 in
theorem rwrite_any (v : Value) (fs : List Fld) (w : World) (hp : RFldsAt w v fs) (hl : fs.length ≤ 1000) (hok : ∀ f ∈ fs, f.Ok) : Calls Try.prog 7 #[v] w (RetWr (wrF fs) w) := by
  obtain ⟨i0, hi, hz0, hz1, hz2⟩ := info_parts info8
  obtain ⟨a, c, rfl, hnc, -⟩ := hp.shape
  have HP := Lib.hid hp
  have HFO := Lib.hid hok
  obtain ⟨n, hn⟩ : ∃ n, n = fs.length := ⟨_, rfl⟩
  rw [← hn] at hl hnc HP ⊢
  have HN := Lib.hid hn
  clear hp hok hn
  go_enter Try.func7, Try.ntmps7
  go_wp2
  go_loopw [4, 5] (fun o' i wr => ∃ (k : Nat) (o : Value), k ≤ n ∧ o = o' ∧ i = .int .i64 (k : Int) ∧ Hid (∀ i g, i < k → fs[i]? = some g → okF g = 0) ∧ Hid (wr.ownsRow w.heap.size 5 1 o ((fs.take k).flatMap wrB).length (((fs.take k).flatMap wrB).map u8v)) ∧ Hid (Grows w wr)) (fun _ i _ => n - (intOf i).toNat)
  case atStart => exact ⟨0, _, Nat.zero_le _, rfl, rfl, Lib.hid (fun i g hi => absurd hi (Nat.not_lt_zero _)), Lib.hid (World.ownsRow_nil _ _ _ _), Lib.hid (Grows.refl _)⟩
  case round =>
    obtain ⟨k, o, hk, rfl, rfl, HOK, HO, HG⟩ := hrel
    by_cases hlt : k < n
    · obtain ⟨f, hf⟩ : ∃ f, fs[k]? = some f := ⟨_, List.getElem?_eq_getElem (by rw [← HN.out]; exact hlt)⟩
      obtain ⟨ba, oa, rfl, hba, c0, c1, c2, c3⟩ := (HP.out.grows HG.out).at_ hf
      have hfo := HFO.out f (List.mem_of_getElem? hf)
      have HFL := Lib.hid (flat_snoc hf)
      have HOK0 : Hid (okF f = 0 → ∀ g, fs[k]? = some g → okF g = 0) := Lib.hid (fun h g hg => by rw [hf] at hg; cases hg; exact h)
      have HBAD := Lib.hid (fun h => wrF_bad HOK.out hf h)
      have HAL0 := Lib.hid (flat_len HFO.out k HOK.out)
      have HAL : Hid (((fs.take k).flatMap wrB).length ≤ 1020000) := Lib.hid (by have := HAL0.out; have : k * 1020 ≤ 1000 * 1020 := Nat.mul_le_mul_right _ (by omega); omega)
      have HCK := Lib.hid (rcheck_any f)
      have HBY := Lib.hid (fun w' h => rbytes_fld f w' hfo h)
      have HWL := Lib.hid (fun h => wrB_len hfo h)
      generalize (fs.take k).flatMap wrB = A at HO HFL HAL
      obtain ⟨e, hee⟩ : ∃ e, e = okF f := ⟨_, rfl⟩
      rw [← hee] at HOK0 HBAD HCK HBY HWL
      generalize wrB f = E at HBY HWL HFL
      obtain ⟨num, kind, fn, bs⟩ := f
      unfold rfV at HCK HBY
      simp only at c0 c1 c2 c3 HCK HBY
      clear hf hfo HAL0 hee
      by_cases he : e = 0
      · subst he
        have HE := Lib.hid (HWL.out rfl)
        have HBY : Hid (∀ w', True → _) := Lib.hid (fun w' _ => HBY.out w' rfl)
        have HOKK := Lib.hid (HOK0.out rfl)
        clear HWL HOK0 HBAD
        go_wp2_with fail
        refine (HCK.out _).mono ?_
        rintro _ w1 ⟨rfl, hg⟩
        have e0 := (Below.cell hg (p := ⟨ba, oa + k * 4, none⟩) hba).trans c0
        have e1 := (Below.cell hg (p := ⟨ba, oa + k * 4 + 1, none⟩) hba).trans c1
        have e2 := (Below.cell hg (p := ⟨ba, oa + k * 4 + 2, none⟩) hba).trans c2
        have e3 := (Below.cell hg (p := ⟨ba, oa + k * 4 + 3, none⟩) hba).trans c3
        have HO1 := Lib.hid (ownsRow_later HO.out hg)
        have HG1 := Lib.hid (HG.out.trans hg)
        clear hg c0 c1 c2 c3 HO HG
        go_wp2_with fail
        refine (HBY.out _ trivial).mono ?_
        rintro _ w2 ⟨u2, rfl, hu, hg⟩
        have HU := Lib.hid (own_row hu)
        have HO := Lib.hid (ownsRow_later HO1.out hg)
        have HG := Lib.hid (HG1.out.trans hg)
        clear hu hg HO1 HG1 e0 e1 e2 e3
        have HL63 : Hid (A.length + E.length ≤ maxLen) := Lib.hid (by have := HAL.out; have := HE.out; unfold maxLen; omega)
        have HLB : Hid ((A.length + E.length) * 1 ≤ 140737488355328) := Lib.hid (by have := HAL.out; have := HE.out; omega)
        go_wp2_with (at_builtin; go_loud (refine append_row2 rfl _ _ 24 rfl w.heap.size 5 i0 (.int .u8 0) 1 1 Try.underlying24 hi hz0 hz1 hz2 rfl (by decide) o A.length (A.map u8v) rfl HO.out E.length (E.map u8v) u2 rfl HU.out HL63.out HLB.out HG.out.size ?_; intro o3 w3 hown hgr; have HG' := Lib.hid (grown_all HO.out HG.out hgr); have HO' := Lib.hid (own_join hown); clear hown hgr HO HG HL63 HLB; have HO := HO'; have HG := HG'; clear HO' HG'))
        exact ⟨⟨k + 1, _, by omega, rfl, by simp, Lib.hid (fun i g hi hg => (Nat.lt_succ_iff_lt_or_eq.1 hi).elim (fun h => HOK.out i g h hg) (fun h => by subst h; exact HOKK.out g hg)), Lib.hid (by rw [HFL.out]; exact HO.out), HG⟩, by simp only [intOf]; omega⟩
      · have b3 : (e != 0) = true := by simpa using he
        have HBD := Lib.hid (HBAD.out he)
        clear HBAD he HWL HOK0 HBY
        go_wp2_with fail
        refine (HCK.out _).mono ?_
        rintro _ w1 ⟨rfl, hg⟩
        have HG1 := Lib.hid (HG.out.trans hg)
        clear hg
        go_wp2
        go_ret2
        exact ⟨.slice none 0 0, by rw [HBD.out]; rfl, by rw [HBD.out]; exact nums_nil _, HG1.out⟩
    · obtain rfl : k = n := by omega
      have HW := Lib.hid (wrF_ok (fs := fs) (fun i g hi hg => HOK.out i g (by rw [HN.out]; exact hi) hg))
      have HAL := Lib.hid (flat_len HFO.out k HOK.out)
      go_wp2
      go_ret2
      rw [HW.out]
      refine ⟨o, rfl, ?_, HG.out⟩
      have h1 := HO.out
      have h2 := HAL.out
      rw [List.take_of_length_le (by rw [HN.out]; exact Nat.le_refl _)] at h1 h2
      exact ownsRow_nums h1 (by show (fs.flatMap wrB).length ≤ _; omega)
end Go.Proofs.Ytmgfbabknehipaa
