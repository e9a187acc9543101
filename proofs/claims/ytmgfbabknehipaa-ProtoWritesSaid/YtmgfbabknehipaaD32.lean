/-
  Layer 8: the law ProtoWrites.
-/
import Derived.Test.YtmgfbabknehipaaD25
import Derived.Test.YtmgfbabknehipaaD30
import Derived.Test.YtmgfbabknehipaaD31
import Derived.Test.YtmgfbabknehipaaD19
import Derived.Test.YtmgfbabknehipaaD21
namespace Go.Proofs.Ytmgfbabknehipaa
open Go.RowKit Go.Tab Go.WideShapes

theorem wrF_cases (fs : List Fld) : (wrF fs = (fs.flatMap wrB, 0) ∧ ∀ f ∈ fs, okF f = 0) ∨ ∃ e, e ≠ 0 ∧ wrF fs = ([], e) := by
  unfold wrF
  cases h : fs.find? (fun f => okF f != 0) with
  | none => exact .inl ⟨rfl, fun f hf => by have := List.find?_eq_none.1 h f hf; simpa using this⟩
  | some f => exact .inr ⟨okF f, by have := List.find?_some h; simpa using this, rfl⟩
theorem flat_bound {fs : List Fld} (hok : ∀ f ∈ fs, f.Ok) (h0 : ∀ f ∈ fs, okF f = 0) (hl : fs.length ≤ 20) : (fs.flatMap wrB).length ≤ 20400 := by
  have := flat_len hok fs.length (fun i g _ hg => h0 g (List.mem_of_getElem? hg))
  rw [List.take_length] at this
  have h2 : fs.length * 1020 ≤ 20 * 1020 := Nat.mul_le_mul_right _ hl
  omega

set_option maxRecDepth 100000 in
set_option maxHeartbeats 8000000 in
theorem writes_law (v : Value) (A : List Fld) (w : World)
    (HCA : Hid (∀ w', Grows w w' → Calls Try.prog 5 #[v] w' (fun e w2 => ∃ u, e = .returned u ∧ FldsAt w2 u A ∧ Grows w' w2)))
    (HLA : Hid (A.length ≤ 20)) (HXA : Hid (∀ f ∈ A, f.Ok)) : Calls Try.prog 3 #[v] w (Ret (.bool true) w) := by
  have HBY := Lib.hid (fun f (hf : f ∈ A) => (HXA.out f hf).bs)
  have HL1 : Hid (A.length ≤ 1000) := Lib.hid (by have := HLA.out; omega)
  have HAA : Hid (sameF A A = true) := Lib.hid (sameF_iff.2 rfl)
  have HWR := Lib.hid (fun v w hp => write_any v A w hp HL1.out HXA.out)
  have HRW := Lib.hid (fun v w hp => rwrite_any v A w hp HL1.out HXA.out)
  have HCS : Hid ((∃ L : List Nat, wrF A = (L, 0) ∧ allF L = (A, 0, 0) ∧ (∀ x ∈ L, x < 256) ∧ L.length ≤ 1000000) ∨ ∃ e, e ≠ 0 ∧ wrF A = ([], e)) := Lib.hid (by
    rcases wrF_cases A with ⟨h1, h2⟩ | h
    · have := flat_bound HXA.out h2 HLA.out
      exact .inl ⟨_, h1, all_wr A (fun g hg => ⟨h2 g hg, HXA.out g hg⟩), flat_byte A HXA.out, by omega⟩
    · exact .inr h)
  go_enter Try.func3, Try.ntmps3
  go_wp2_with fail
  refine (HCA.out _ (Grows.refl _)).mono ?_
  rintro _ wa ⟨va, rfl, ha, hg⟩
  have VA := Lib.hid ha
  have G1 := Lib.hid hg
  clear hg ha HCA
  unfold RetWr at HWR HRW
  generalize wrF A = q at HWR HRW HCS
  obtain ⟨L, e⟩ := q
  simp only at HWR HRW
  go_wp2_with fail
  refine (HWR.out _ _ VA.out).mono ?_
  rintro _ wb ⟨ub, rfl, hu, hg⟩
  have VA1 := Lib.hid (VA.out.grows hg)
  have UB := Lib.hid hu
  have G2 := Lib.hid (G1.out.trans hg)
  clear hg hu VA G1
  go_wp2_with fail
  refine (lofs_any va A _ VA1.out HL1.out).mono ?_
  rintro _ wc ⟨uc, rfl, hu, hg⟩
  have VA := Lib.hid (VA1.out.grows hg)
  have UB1 := Lib.hid (UB.out.grows hg)
  have UC := Lib.hid hu
  have G3 := Lib.hid (G2.out.trans hg)
  clear hg hu VA1 UB G2
  go_wp2_with fail
  refine (HRW.out _ _ UC.out).mono ?_
  rintro _ wd ⟨ud, rfl, hu, hg⟩
  have VA1 := Lib.hid (VA.out.grows hg)
  have UB := Lib.hid (UB1.out.grows hg)
  have UD := Lib.hid hu
  have G4 := Lib.hid (G3.out.trans hg)
  clear hg hu VA UB1 UC G3
  have HSB := Lib.hid (Same_any ub ud L L wd UB.out UD.out)
  rw [show decide (L = L) = true by simp] at HSB
  have bne : (e != e) = false := by simp
  go_wp2_with fail
  refine HSB.out.mono ?_
  rintro _ we ⟨rfl, hg⟩
  have VA := Lib.hid (VA1.out.grows hg)
  have UB1 := Lib.hid (UB.out.grows hg)
  have G5 := Lib.hid (G4.out.trans hg)
  clear hg VA1 UB UD G4 HSB bne
  rcases HCS.out with ⟨L', h1, h2, h3, h4⟩ | ⟨e', h1, h2⟩
  · injection h1 with h1 h1'
    subst h1 h1'
    have HAL := Lib.hid (all_any ub L we UB1.out h3 h4)
    unfold RetAll at HAL
    rw [h2] at HAL
    simp only at HAL
    clear h2 h3 h4
    go_wp2_with fail
    refine HAL.out.mono ?_
    rintro _ wf ⟨uf, rfl, hu, hg⟩
    have VA1 := Lib.hid (VA.out.grows hg)
    have UF := Lib.hid hu
    have G6 := Lib.hid (G5.out.trans hg)
    clear hg hu VA G5 UB1
    go_wp2_with fail
    refine (kn8_any _).mono ?_
    rintro _ wg ⟨rfl, hg⟩
    have VA := Lib.hid (VA1.out.grows hg)
    have UF1 := Lib.hid (UF.out.grows hg)
    have G7 := Lib.hid (G6.out.trans hg)
    clear hg VA1 UF G6
    go_wp2_with fail
    refine (lofs_any va A _ VA.out HL1.out).mono ?_
    rintro _ wh ⟨uh, rfl, hu, hg⟩
    have VA1 := Lib.hid (VA.out.grows hg)
    have UF := Lib.hid (UF1.out.grows hg)
    have UH := Lib.hid hu
    have G8 := Lib.hid (G7.out.trans hg)
    clear hg hu VA UF1 G7
    have HS1 := Lib.hid (lsame_any uf uh A A wh UF.out UH.out HL1.out HL1.out HBY.out HBY.out)
    rw [HAA.out] at HS1
    go_wp2_with fail
    refine HS1.out.mono ?_
    rintro _ wi ⟨rfl, hg⟩
    have VA := Lib.hid (VA1.out.grows hg)
    have UF1 := Lib.hid (UF.out.grows hg)
    have G9 := Lib.hid (G8.out.trans hg)
    clear hg VA1 UF UH G8 HS1
    have HS1 := Lib.hid (psame_any uf va A A wi UF1.out VA.out HL1.out HL1.out HBY.out HBY.out)
    rw [HAA.out] at HS1
    go_wp2_with fail
    refine HS1.out.mono ?_
    rintro _ wj ⟨rfl, hg⟩
    have G10 := Lib.hid (G9.out.trans hg)
    clear hg
    go_wp2
    go_ret
    exact ⟨rfl, G10.out⟩
  · injection h2 with h2 h3
    subst h2 h3
    have bn : (e != 0) = true := by simpa using h1
    clear h1
    go_wp2_with fail
    refine (kn8_any _).mono ?_
    rintro _ wf ⟨rfl, hg⟩
    have G6 := Lib.hid (G5.out.trans hg)
    clear hg
    go_wp2
    go_ret
    exact ⟨rfl, G6.out⟩
end Go.Proofs.Ytmgfbabknehipaa
