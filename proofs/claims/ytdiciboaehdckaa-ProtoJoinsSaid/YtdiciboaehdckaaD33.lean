/-
  Layer 8: the law ProtoJoins.
-/
import Derived.Test.YtdiciboaehdckaaD25
import Derived.Test.YtdiciboaehdckaaD31
import Derived.Test.YtdiciboaehdckaaD23
namespace Go.Proofs.Ytdiciboaehdckaa
open Go.RowKit Go.Tab Go.WideShapes

theorem own_new0 (w : World) (T : TypeId) (s : Nat) : (w.alloc (.cells #[] T)).ownsRow w.heap.size T s (.slice (some ⟨w.heap.size, 0, none⟩) 0 0) 0 [] :=
  ⟨by simp, .inr ⟨w.heap.size, 0, #[], rfl, Nat.le_refl _, heap_new _ _ _ rfl, Nat.le_refl _, by unfold maxLen; omega, by simp, by simp⟩⟩
theorem fcells_len (ps : List (Fld × Value)) : (fcells ps).length = ps.length * 4 := by
  induction ps with
  | nil => rfl
  | cons p ps ih => simp only [fcells, List.flatMap_cons, List.length_append, List.length_cons, List.length_nil] at ih ⊢; omega
theorem fcells_append (a b : List (Fld × Value)) : fcells (a ++ b) = fcells a ++ fcells b := by simp [fcells]
theorem fcells_one {ps : List (Fld × Value)} (h : ∀ p ∈ ps, p.2.oneCell' = true) : ∀ x ∈ fcells ps, x.oneCell' = true := by
  intro x hx
  obtain ⟨p, hp, hx⟩ := List.mem_flatMap.1 hx
  simp only [List.mem_cons, List.not_mem_nil, or_false] at hx
  rcases hx with rfl | rfl | rfl | rfl
  · rfl
  · rfl
  · rfl
  · exact h p hp
theorem fcells_at {ps : List (Fld × Value)} {j : Nat} {x : Value} (h : (fcells ps)[j]? = some x) : ∃ i p, ps[i]? = some p ∧ ((j = i * 4 ∧ x = .int .i64 p.1.num) ∨ (j = i * 4 + 1 ∧ x = .int .i64 p.1.kind) ∨ (j = i * 4 + 2 ∧ x = .int .u64 (p.1.n : Int)) ∨ (j = i * 4 + 3 ∧ x = p.2)) := by
  have hj := (List.getElem?_eq_some_iff.1 h).1
  rw [fcells_len] at hj
  have hi : j / 4 < ps.length := by omega
  obtain ⟨e0, e1, e2, e3⟩ := fcells_get ps (j / 4) ps[j / 4] (List.getElem?_eq_getElem hi)
  refine ⟨j / 4, ps[j / 4], List.getElem?_eq_getElem hi, ?_⟩
  have hm : j % 4 = 0 ∨ j % 4 = 1 ∨ j % 4 = 2 ∨ j % 4 = 3 := by omega
  rcases hm with hm | hm | hm | hm
  · have e : j = j / 4 * 4 := by omega
    rw [← e, h] at e0
    injection e0 with e0
    exact .inl ⟨e, e0⟩
  · have e : j = j / 4 * 4 + 1 := by omega
    rw [← e, h] at e1
    injection e1 with e1
    exact .inr (.inl ⟨e, e1⟩)
  · have e : j = j / 4 * 4 + 2 := by omega
    rw [← e, h] at e2
    injection e2 with e2
    exact .inr (.inr (.inl ⟨e, e2⟩))
  · have e : j = j / 4 * 4 + 3 := by omega
    rw [← e, h] at e3
    injection e3 with e3
    exact .inr (.inr (.inr ⟨e, e3⟩))
/-- Fields in memory as a row of cells. -/
theorem flds_row {w : World} {v : Value} {fs : List Fld} (h : FldsAt w v fs) : ∃ PS : List (Fld × Value), PS.map (·.1) = fs ∧ RowAt 4 w v fs.length (fcells PS) ∧ ∀ p ∈ PS, NumsAt .u8 w p.2 p.1.bs := by
  rcases h with ⟨⟨a, c, hv, hac⟩, rfl⟩ | ⟨b, off, cap, hv, hb, hc, hf⟩
  · exact ⟨[], rfl, ⟨rfl, (fun u hu => by cases hu), .inl ⟨rfl, a, c, hv, hac⟩⟩, fun p hp => by cases hp⟩
  · have each : ∀ i, ∃ bv, ∀ f, fs[i]? = some f → w.cell? ⟨b, off + i * 4, none⟩ = some (.int .i64 f.num) ∧ w.cell? ⟨b, off + i * 4 + 1, none⟩ = some (.int .i64 f.kind) ∧ w.cell? ⟨b, off + i * 4 + 2, none⟩ = some (.int .u64 (f.n : Int)) ∧ w.cell? ⟨b, off + i * 4 + 3, none⟩ = some bv ∧ NumsAt .u8 w bv f.bs := fun i => by
      cases hi : fs[i]? with
      | none => exact ⟨.slice none 0 0, fun f h => by cases h⟩
      | some f =>
        obtain ⟨bv, h⟩ := hf i f hi
        exact ⟨bv, fun g hg => by cases hg; exact h⟩
    obtain ⟨BV, all⟩ := Classical.skolem.1 each
    have hget : ∀ i : Nat, (fs.mapIdx (fun i f => (f, BV i)))[i]? = fs[i]?.map (fun f => (f, BV i)) := fun i => by rw [List.getElem?_mapIdx]
    refine ⟨fs.mapIdx (fun i f => (f, BV i)), ?_, ⟨by rw [fcells_len, List.length_mapIdx], ?_, .inr ⟨b, off, cap, hv, hb, fun j x hj => ?_⟩⟩, ?_⟩
    · apply List.ext_getElem?
      intro i
      rw [List.getElem?_map, hget]
      cases fs[i]? <;> rfl
    · refine fcells_one fun p hp => ?_
      obtain ⟨i, hi⟩ := List.mem_iff_getElem?.1 hp
      rw [hget] at hi
      obtain ⟨f, hf', rfl⟩ := Option.map_eq_some_iff.1 hi
      obtain ⟨a1, c1, e⟩ := (all i f hf').2.2.2.2.shape
      show (BV i).oneCell' = true
      rw [e]; rfl
    · obtain ⟨i, p, hp, hx⟩ := fcells_at hj
      rw [hget] at hp
      obtain ⟨f, hf', rfl⟩ := Option.map_eq_some_iff.1 hp
      obtain ⟨g0, g1, g2, g3, _⟩ := all i f hf'
      rcases hx with ⟨rfl, rfl⟩ | ⟨rfl, rfl⟩ | ⟨rfl, rfl⟩ | ⟨rfl, rfl⟩
      · exact g0
      · exact g1
      · exact g2
      · exact g3
    · intro p hp
      obtain ⟨i, hi⟩ := List.mem_iff_getElem?.1 hp
      rw [hget] at hi
      obtain ⟨f, hf', rfl⟩ := Option.map_eq_some_iff.1 hi
      exact (all i f hf').2.2.2.2
theorem own_row4 {w : World} {base : Nat} {T : TypeId} {v : Value} {n : Nat} {PS : List (Fld × Value)} (h : w.ownsRow base T 4 v n (fcells PS)) (hb : ∀ p ∈ PS, OwnB w p) : RowAt 4 w v n (fcells PS) := by
  refine ⟨h.1, fcells_one fun p hp => ?_, ?_⟩
  · obtain ⟨a, c, e, _⟩ := own_shape (hb p hp)
    rw [e]; rfl
  · have hc := h
    obtain ⟨_, ⟨rfl, h0⟩ | ⟨g, cap, cur, rfl, hb', hh, h1, h2, h3, h4⟩⟩ := h
    · exact .inl ⟨h0, none, 0, rfl, fun _ => rfl⟩
    · exact .inr ⟨g, 0, cap, rfl, (Array.getElem?_eq_some_iff.1 hh).1, fun j x hj => by have := hc.cells (g := g) rfl j x hj; rw [Tab.add_at] at this; exact this⟩
theorem onlyL_append (a b : List Fld) (num : Int) : onlyL (a ++ b) num = onlyL a num ++ onlyL b num := by simp [onlyL]
theorem wrF_cases (fs : List Fld) : (wrF fs = (fs.flatMap wrB, 0) ∧ ∀ f ∈ fs, okF f = 0) ∨ ∃ e, e ≠ 0 ∧ wrF fs = ([], e) := by
  unfold wrF
  cases h : fs.find? (fun f => okF f != 0) with
  | none => exact .inl ⟨rfl, fun f hf => by have := List.find?_eq_none.1 h f hf; simpa using this⟩
  | some f => exact .inr ⟨okF f, by have := List.find?_some h; simpa using this, rfl⟩
theorem flat_bound {fs : List Fld} (hok : ∀ f ∈ fs, f.Ok) (h0 : ∀ f ∈ fs, okF f = 0) (hl : fs.length ≤ 20) : (fs.flatMap wrB).length ≤ 20400 := by
  have := flat_len hok fs.length (fun i g _ hg => h0 g (List.mem_of_getElem? hg))
  rw [List.take_length] at this
  have h2 : fs.length * 1020 ≤ 20 * 1020 := Nat.mul_le_mul_right _ hl
  omega

theorem both_at {w : World} {base : Nat} {T : TypeId} {o : Value} {A B : List Fld} {PA PB : List (Fld × Value)} (h : w.ownsRow base T 4 o (0 + A.length + B.length) ([] ++ fcells PA ++ fcells PB)) (ha : PA.map (·.1) = A) (hb : PB.map (·.1) = B) (na : ∀ p ∈ PA, NumsAt .u8 w p.2 p.1.bs) (nb : ∀ p ∈ PB, NumsAt .u8 w p.2 p.1.bs) : FldsAt w o (A ++ B) := by
  rw [List.nil_append, ← fcells_append] at h
  have := own_flds h (by rw [← ha, ← hb]; simp) (fun p hp => (List.mem_append.1 hp).elim (na p) (nb p))
  rwa [List.map_append, ha, hb] at this
theorem some_at {w : World} {base : Nat} {T : TypeId} {o : Value} {A B : List Fld} {PA PB : List (Fld × Value)} (h : w.ownsRow base T 4 o (PA.length + PB.length) (fcells PA ++ fcells PB)) (ha : PA.map (·.1) = A) (hb : PB.map (·.1) = B) (na : ∀ p ∈ PA, NumsAt .u8 w p.2 p.1.bs) (nb : ∀ p ∈ PB, NumsAt .u8 w p.2 p.1.bs) : FldsAt w o (A ++ B) := by
  rw [← fcells_append] at h
  have := own_flds h (by simp) (fun p hp => (List.mem_append.1 hp).elim (na p) (nb p))
  rwa [List.map_append, ha, hb] at this
theorem bytes_at {w : World} {base : Nat} {T : TypeId} {o : Value} {L M : List Nat} (h : w.ownsRow base T 1 o (0 + L.length + M.length) ([] ++ L.map u8v ++ M.map u8v)) (hl : L.length + M.length ≤ 17592186044416) : NumsAt .u8 w o (L ++ M) := by
  rw [List.nil_append, ← List.map_append, Nat.zero_add, ← List.length_append] at h
  exact ownsRow_nums h (by rw [List.length_append]; exact hl)
set_option maxRecDepth 100000 in
set_option maxHeartbeats 8000000 in
theorem joins_law (v u : Value) (A B : List Fld) (num1 : Int) (w : World)
    (HCA : Hid (∀ w', Grows w w' → Calls Try.prog 7 #[v] w' (fun e w2 => ∃ u, e = .returned u ∧ FldsAt w2 u A ∧ Grows w' w2)))
    (HCB : Hid (∀ w', Grows w w' → Calls Try.prog 7 #[u] w' (fun e w2 => ∃ u, e = .returned u ∧ FldsAt w2 u B ∧ Grows w' w2)))
    (HLA : Hid (A.length ≤ 20)) (HLB : Hid (B.length ≤ 20)) (HXA : Hid (∀ f ∈ A, f.Ok)) (HXB : Hid (∀ f ∈ B, f.Ok)) : Calls Try.prog 6 #[v, u, .int .i64 num1] w (Ret (.bool true) w) := by
  obtain ⟨i0, fi, fz, fy, fb⟩ := info_parts infoF
  obtain ⟨j0, gi, gz, gy, gb⟩ := info_parts info8
  have HWA := Lib.hid (fun v w hp => write_any v A w hp (by have := HLA.out; omega) HXA.out)
  have HWB := Lib.hid (fun v w hp => write_any v B w hp (by have := HLB.out; omega) HXB.out)
  have HAB : Hid (∀ f ∈ A ++ B, f.Ok) := Lib.hid (fun f hf => (List.mem_append.1 hf).elim (HXA.out f) (HXB.out f))
  have HLNA : Hid (∀ f ∈ A, f.bs.length ≤ 1000) := Lib.hid (fun f hf => (HXA.out f hf).len)
  have HLNB : Hid (∀ f ∈ B, f.bs.length ≤ 1000) := Lib.hid (fun f hf => (HXB.out f hf).len)
  have HCS : Hid ((∃ L M : List Nat, wrF A = (L, 0) ∧ wrF B = (M, 0) ∧ allF (L ++ M) = (A ++ B, 0, 0) ∧ (∀ x ∈ L ++ M, x < 256) ∧ L.length ≤ 20400 ∧ M.length ≤ 20400) ∨ (∃ e, e ≠ 0 ∧ wrF A = ([], e)) ∨ ∃ L e, e ≠ 0 ∧ wrF A = (L, 0) ∧ wrF B = ([], e)) := Lib.hid (by
    rcases wrF_cases A with ⟨h1, h2⟩ | h
    · rcases wrF_cases B with ⟨h3, h4⟩ | ⟨e, h3, h4⟩
      · have hk : ∀ g ∈ A ++ B, okF g = 0 ∧ g.Ok := fun g hg => ⟨(List.mem_append.1 hg).elim (h2 g) (h4 g), HAB.out g hg⟩
        have hall := all_wr (A ++ B) hk
        have hby := flat_byte (A ++ B) HAB.out
        rw [List.flatMap_append] at hall hby
        exact .inl ⟨_, _, h1, h3, hall, hby, flat_bound HXA.out h2 HLA.out, flat_bound HXB.out h4 HLB.out⟩
      · exact .inr (.inr ⟨_, e, h3, h1, h4⟩)
    · exact .inr (.inl h))
  unfold RetWr at HWA HWB
  go_enter Try.func6, Try.ntmps6
  go_wp2_with fail
  refine (HCA.out _ (Grows.refl _)).mono ?_
  rintro _ wa ⟨va, rfl, ha, hg⟩
  have VA := Lib.hid ha
  have G1 := Lib.hid hg
  clear hg ha HCA
  go_wp2_with fail
  refine (HCB.out _ G1.out).mono ?_
  rintro _ wb ⟨vb, rfl, hb, hg⟩
  have VA1 := Lib.hid (VA.out.grows hg)
  have VB := Lib.hid hb
  have G2 := Lib.hid (G1.out.trans hg)
  clear hg hb HCB VA G1
  go_wp2_with fail
  refine (HWA.out _ _ VA1.out).mono ?_
  rintro _ wc ⟨ua, rfl, hu, hg⟩
  have VA := Lib.hid (VA1.out.grows hg)
  have VB1 := Lib.hid (VB.out.grows hg)
  have UA1 := Lib.hid hu
  have G3 := Lib.hid (G2.out.trans hg)
  clear hg hu VA1 VB G2 HWA
  go_wp2_with fail
  refine (HWB.out _ _ VB1.out).mono ?_
  rintro _ wd ⟨ub, rfl, hu, hg⟩
  have VA1 := Lib.hid (VA.out.grows hg)
  have VB := Lib.hid (VB1.out.grows hg)
  have UA2 := Lib.hid (UA1.out.grows hg)
  have UB2 := Lib.hid hu
  have G4 := Lib.hid (G3.out.trans hg)
  clear hg hu VA VB1 G3 HWB UA1
  rcases HCS.out with ⟨L, M, h1, h2, h3, h4, h5, h6⟩ | ⟨e, h1, h2⟩ | ⟨L, e, h1, h2, h3⟩
  · rw [h1] at UA2
    rw [h2] at UB2
    rw [h1, h2]
    have HAL0 := Lib.hid h3
    have HBY := Lib.hid h4
    have HLL := Lib.hid h5
    have HLM := Lib.hid h6
    have UA := Lib.hid (nums_row UA2.out)
    have UB := Lib.hid (nums_row UB2.out)
    obtain ⟨PA, hPA, hPAR, hPAN⟩ := flds_row VA1.out
    obtain ⟨PB, hPB, hPBR, hPBN⟩ := flds_row VB.out
    have PAM := Lib.hid hPA
    have PBM := Lib.hid hPB
    have PAR := Lib.hid hPAR
    have PBR := Lib.hid hPBR
    have PAN := Lib.hid hPAN
    have PBN := Lib.hid hPBN
    clear h1 h2 h3 h4 h5 h6 UA2 UB2 hPA hPB hPAR hPBR hPAN hPBN HCS
    simp only at UA UB
    go_wp2_with (at_builtin; first | (refine append_row2 rfl _ _ 24 rfl w2a.heap.size 5 j0 (.int .u8 0) 1 1 Try.underlying24 gi gz gy gb rfl (by decide) o3 (0 + L.length) _ rfl O3.out M.length (M.map u8v) _ rfl (row_later (row_later UB.out H2.out) H3.out) (by have := HLL.out; have := HLM.out; unfold maxLen; omega) (by have := HLL.out; have := HLM.out; omega) H3.out.size ?_; intro o4 w4a hown hgr; have O4 := Lib.hid hown; have H4 := Lib.hid (grown_all O3.out H3.out hgr); clear hown hgr) | (refine append_row2 rfl _ _ 24 rfl w2a.heap.size 5 j0 (.int .u8 0) 1 1 Try.underlying24 gi gz gy gb rfl (by decide) (.slice (some ⟨w2a.heap.size, 0, none⟩) 0 0) 0 [] rfl (own_new0 w2a _ 1) L.length (L.map u8v) _ rfl (row_later (row_later UA.out H2.out) (Grows.alloc _ _)) (by have := HLL.out; have := HLM.out; unfold maxLen; omega) (by have := HLL.out; have := HLM.out; omega) (Grows.alloc w2a _).size ?_; intro o3 w3a hown hgr; have O3 := Lib.hid hown; have H3 := Lib.hid (grown_all (own_new0 w2a _ 1) (Grows.alloc w2a _) hgr); clear hown hgr) | (refine append_row2 rfl _ _ 22 rfl wd.heap.size 41 i0 _ 4 48 Try.underlying22 fi fz fy fb rfl (by decide) o1 (0 + A.length) _ rfl O1.out B.length (fcells PB) _ rfl (row_later PBR.out H1.out) (by have := HLA.out; have := HLB.out; unfold maxLen; omega) (by have := HLA.out; have := HLB.out; omega) H1.out.size ?_; intro o2 w2a hown hgr; have O2 := Lib.hid hown; have H2 := Lib.hid (grown_all O1.out H1.out hgr); clear hown hgr) | (go_loud (refine append_row2 rfl _ _ 22 rfl wd.heap.size 41 i0 _ 4 48 Try.underlying22 fi fz fy fb rfl (by decide) (.slice (some ⟨wd.heap.size, 0, none⟩) 0 0) 0 [] rfl (own_new0 wd _ 4) A.length (fcells PA) _ rfl (row_later PAR.out (Grows.alloc _ _)) (by have := HLA.out; have := HLB.out; unfold maxLen; omega) (by have := HLA.out; have := HLB.out; omega) (Grows.alloc wd _).size ?_; intro o1 w1a hown hgr; have O1 := Lib.hid hown; have H1 := Lib.hid (grown_all (own_new0 wd _ 4) (Grows.alloc wd _) hgr); clear hown hgr)))
    have VBO := Lib.hid (both_at O2.out PAM.out PBM.out (fun p hp => (PAN.out p hp).grows H2.out) (fun p hp => (PBN.out p hp).grows H2.out))
    have NLM := Lib.hid (bytes_at O4.out (by have := HLL.out; have := HLM.out; omega))
    have VAw := Lib.hid ((VA1.out.grows H2.out).grows H4.out)
    have VBw := Lib.hid ((VB.out.grows H2.out).grows H4.out)
    have VOw := Lib.hid (VBO.out.grows H4.out)
    have G5 := Lib.hid ((G4.out.trans H2.out).trans H4.out)
    have HAL := Lib.hid (all_any o4 (L ++ M) w4a NLM.out HBY.out (by have := HLL.out; have := HLM.out; rw [List.length_append]; omega))
    unfold RetAll at HAL
    rw [HAL0.out] at HAL
    simp only at HAL
    clear UA UB PAR PBR PAN PBN O1 O2 O3 O4 H1 H2 H3 H4 VBO NLM VA1 VB G4 PAM PBM HAL0
    refine HAL.out.mono ?_
    rintro _ we ⟨ue, rfl, hu, hg⟩
    have VA := Lib.hid (VAw.out.grows hg)
    have VB := Lib.hid (VBw.out.grows hg)
    have VO := Lib.hid (VOw.out.grows hg)
    have UE := Lib.hid hu
    have GE := Lib.hid (G5.out.trans hg)
    clear hg hu VAw VBw VOw G5 HAL
    go_wp2_with fail
    refine (only_any va A num1 _ VA.out (by have := HLA.out; omega) HLNA.out).mono ?_
    rintro _ wf ⟨ug, PG, rfl, hPG, hown, hPB, hg⟩
    have PGM := Lib.hid hPG
    have OG0 := Lib.hid hown
    have BG0 := Lib.hid hPB
    have GF := Lib.hid (GE.out.trans hg)
    have VBf := Lib.hid (VB.out.grows hg)
    have EF := Lib.hid hg
    clear hPG hown hPB hg VA VB
    go_wp2_with fail
    refine (only_any vb B num1 _ VBf.out (by have := HLB.out; omega) HLNB.out).mono ?_
    rintro _ wg ⟨uh, PH, rfl, hPH, hown, hPB, hg⟩
    have PHM := Lib.hid hPH
    have OG := Lib.hid (ownsRow_later OG0.out hg)
    have BG : Hid (∀ p ∈ PG, OwnB wg p) := Lib.hid (fun p hp => (BG0.out p hp).grows hg)
    have BH := Lib.hid hPB
    have RH := Lib.hid (own_row4 hown hPB)
    have GH := Lib.hid (EF.out.trans hg)
    have HLG : Hid (PG.length ≤ 20) := Lib.hid (by have := congrArg List.length PGM.out; rw [List.length_map] at this; have h2 := only_len A num1; have := HLA.out; omega)
    have HLH : Hid (PH.length ≤ 20) := Lib.hid (by have := congrArg List.length PHM.out; rw [List.length_map] at this; have h2 := only_len B num1; have := HLB.out; omega)
    clear hPH hown hPB hg OG0 BG0 GF VBf EF
    go_wp2_with (at_builtin; go_loud (refine append_row2 rfl _ _ 22 rfl we.heap.size 41 i0 _ 4 48 Try.underlying22 fi fz fy fb rfl (by decide) ug PG.length (fcells PG) rfl OG.out PH.length (fcells PH) uh rfl RH.out (by have := HLG.out; have := HLH.out; unfold maxLen; omega) (by have := HLG.out; have := HLH.out; omega) GH.out.size ?_; intro o5 w5a hown hgr; have O5 := Lib.hid hown; have H5 := Lib.hid (grown_all OG.out GH.out hgr); have BG5 : Hid (∀ p ∈ PG, OwnB w5a p) := Lib.hid (fun p hp => own_other OG.out (BG.out p hp) (by decide) hgr); have BH5 : Hid (∀ p ∈ PH, OwnB w5a p) := Lib.hid (fun p hp => own_other OG.out (BH.out p hp) (by decide) hgr); clear hown hgr))
    have VS := Lib.hid (some_at O5.out PGM.out PHM.out (fun p hp => (BG5.out p hp).nums (by have := HLNA.out p.1 (only_mem (by rw [← PGM.out]; exact List.mem_map_of_mem hp)); omega)) (fun p hp => (BH5.out p hp).nums (by have := HLNB.out p.1 (only_mem (by rw [← PHM.out]; exact List.mem_map_of_mem hp)); omega)))
    rw [← onlyL_append] at VS
    have VO5 := Lib.hid (VO.out.grows H5.out)
    have UE5 := Lib.hid (UE.out.grows H5.out)
    have G5 := Lib.hid (GE.out.trans H5.out)
    have HC : Hid (sameF (A ++ B) (A ++ B) = true) := Lib.hid (sameF_iff.2 rfl)
    have HD : Hid (sameF (onlyL (A ++ B) num1) (onlyL (A ++ B) num1) = true) := Lib.hid (sameF_iff.2 rfl)
    have HL := Lib.hid (show (A ++ B).length ≤ 1000 by have := HLA.out; have := HLB.out; rw [List.length_append]; omega)
    have HLO := Lib.hid (Nat.le_trans (only_len (A ++ B) num1) HL.out)
    have HBA := Lib.hid (fun f (hf : f ∈ A ++ B) => (HAB.out f hf).bs)
    have HBO := Lib.hid (fun f (hf : f ∈ onlyL (A ++ B) num1) => (HAB.out f (only_mem hf)).bs)
    have HLN := Lib.hid (fun f (hf : f ∈ A ++ B) => (HAB.out f hf).len)
    clear O5 H5 BG5 BH5 PGM PHM OG BG BH RH GH VO UE GE
    generalize A ++ B = C at VS VO5 UE5 HC HD HL HLO HBA HBO HLN
    go_wp2_with fail
    refine (kn8_any _).mono ?_
    rintro _ w6 ⟨rfl, hg⟩
    have VS6 := Lib.hid (VS.out.grows hg)
    have VO6 := Lib.hid (VO5.out.grows hg)
    have UE6 := Lib.hid (UE5.out.grows hg)
    have G6 := Lib.hid (G5.out.trans hg)
    clear hg VS VO5 UE5 G5
    have HS1 := Lib.hid (psame_any ue o2 C C w6 UE6.out VO6.out HL.out HL.out HBA.out HBA.out)
    rw [HC.out] at HS1
    go_wp2_with fail
    refine HS1.out.mono ?_
    rintro _ w7 ⟨rfl, hg⟩
    have VS7 := Lib.hid (VS6.out.grows hg)
    have VO7 := Lib.hid (VO6.out.grows hg)
    have G7 := Lib.hid (G6.out.trans hg)
    clear hg VS6 VO6 UE6 G6 HS1
    go_wp2_with fail
    refine (only_any o2 C num1 _ VO7.out HL.out HLN.out).mono ?_
    rintro _ w8 ⟨u8, PK, rfl, hPK, hown, hPB, hg⟩
    have VK : Hid (FldsAt w8 u8 (onlyL C num1)) := Lib.hid (by
      rw [← hPK]
      exact own_flds hown rfl (fun p hp => (hPB p hp).nums (by
        have := HLN.out p.1 (only_mem (by rw [← hPK]; exact List.mem_map_of_mem hp))
        omega)))
    have VS8 := Lib.hid (VS7.out.grows hg)
    have G8 := Lib.hid (G7.out.trans hg)
    clear hPK hown hPB hg VS7 VO7 G7
    have HS1 := Lib.hid (psame_any u8 o5 _ _ w8 VK.out VS8.out HLO.out HLO.out HBO.out HBO.out)
    rw [HD.out] at HS1
    go_wp2_with fail
    refine HS1.out.mono ?_
    rintro _ w9 ⟨rfl, hg⟩
    have G9 := Lib.hid (G8.out.trans hg)
    clear hg
    go_wp2
    go_ret
    exact ⟨rfl, G9.out⟩
  · rw [h2]
    have bn : (e != 0) = true := by simpa using h1
    clear h1 h2 HCS
    go_wp2_with fail
    refine (kn8_any _).mono ?_
    rintro _ we ⟨rfl, hg⟩
    have G5 := Lib.hid (G4.out.trans hg)
    clear hg
    go_wp2
    go_ret
    exact ⟨rfl, G5.out⟩
  · rw [h2, h3]
    have bn : (e != 0) = true := by simpa using h1
    clear h1 h2 h3 HCS
    go_wp2_with fail
    refine (kn8_any _).mono ?_
    rintro _ we ⟨rfl, hg⟩
    have G5 := Lib.hid (G4.out.trans hg)
    clear hg
    go_wp2
    go_ret
    exact ⟨rfl, G5.out⟩
end Go.Proofs.Ytdiciboaehdckaa
