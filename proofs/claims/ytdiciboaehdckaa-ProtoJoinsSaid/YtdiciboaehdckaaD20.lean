/-
  Layer 8: proto.Only.
-/
import Derived.Test.YtdiciboaehdckaaD19
namespace Go.Proofs.Ytdiciboaehdckaa
open Go.RowKit Go.Tab Go.WideShapes

/-- The fields of a number. -/
def onlyL (fs : List Fld) (num : Int) : List Fld := fs.filter (fun f => decide (f.num = num))
theorem onlyL_yes {fs : List Fld} {k : Nat} {f : Fld} {num : Int} (h : fs[k]? = some f) (hn : f.num = num) : onlyL (fs.take (k + 1)) num = onlyL (fs.take k) num ++ [f] := by
  obtain ⟨hkl, rfl⟩ := List.getElem?_eq_some_iff.1 h
  unfold onlyL
  rw [List.take_succ_eq_append_getElem hkl, List.filter_append]
  simp [hn]
theorem onlyL_no {fs : List Fld} {k : Nat} {f : Fld} {num : Int} (h : fs[k]? = some f) (hn : ¬ f.num = num) : onlyL (fs.take (k + 1)) num = onlyL (fs.take k) num := by
  obtain ⟨hkl, rfl⟩ := List.getElem?_eq_some_iff.1 h
  unfold onlyL
  rw [List.take_succ_eq_append_getElem hkl, List.filter_append]
  simp [hn]
theorem onlyL_len (fs : List Fld) (num : Int) (k : Nat) : (onlyL (fs.take k) num).length ≤ k := by
  unfold onlyL
  refine Nat.le_trans (List.length_filter_le _ _) ?_
  rw [List.length_take]; omega
/-- A field's value owns its bytes. -/
def OwnB (w : World) (p : Fld × Value) : Prop := w.ownsRow 0 5 1 p.2 p.1.bs.length (p.1.bs.map u8v)
theorem OwnB.nums {w : World} {p : Fld × Value} (h : OwnB w p) (hl : p.1.bs.length ≤ 17592186044416) : NumsAt .u8 w p.2 p.1.bs := ownsRow_nums h hl
theorem OwnB.grows {w w' : World} {p : Fld × Value} (h : OwnB w p) (hg : Grows w w') : OwnB w' p := ownsRow_later h hg
theorem own_zero {w : World} {base : Nat} {T : TypeId} {s : Nat} {v : Value} {n : Nat} {xs : List Value} (h : w.ownsRow base T s v n xs) : w.ownsRow 0 T s v n xs := by
  obtain ⟨h0, h | ⟨g, cap, cur, hv, hb, rest⟩⟩ := h
  · exact ⟨h0, .inl h⟩
  · exact ⟨h0, .inr ⟨g, cap, cur, hv, Nat.zero_le _, rest⟩⟩
theorem own_shape {w : World} {base : Nat} {T : TypeId} {s : Nat} {v : Value} {n : Nat} {xs : List Value} (h : w.ownsRow base T s v n xs) : ∃ a c, v = .slice a n c ∧ ∀ k, v.ownBlock = some k → base ≤ k := by
  obtain ⟨_, ⟨rfl, rfl⟩ | ⟨g, cap, cur, rfl, hb, _⟩⟩ := h
  · exact ⟨none, 0, rfl, fun k hk => by cases hk⟩
  · exact ⟨_, _, rfl, fun k hk => by cases hk; exact hb⟩
theorem grown_set (w : World) (b o : Nat) (x : Value) : w.grownBy (w.setCell ⟨b, o, none⟩ x) (some b) := by
  refine ⟨rfl, rfl, rfl, by simp [World.setCell], fun k _ hk => ?_⟩
  exact Below.heap_setCell _ _ _ _ (fun h => hk (by rw [h]))
theorem set_three {w : World} {b : Nat} {T : TypeId} {t0 t1 t2 t3 s3 : Value} (h : w.heap[b]? = some (.cells #[t0, t1, t2, t3] T (0, 0))) :
    (w.setCell ⟨b, 3, none⟩ s3).heap[b]? = some (.cells #[t0, t1, t2, s3] T (0, 0)) := by
  simp [World.setCell, Array.getElem?_modify, h]

set_option maxRecDepth 100000 in
set_option maxHeartbeats 4000000 in
theorem only_any (v : Value) (fs : List Fld) (num1 : Int) (w : World) (hp : FldsAt w v fs) (hl : fs.length ≤ 1000) (hlen : ∀ f ∈ fs, f.bs.length ≤ 1000) : Calls Try.prog 21 #[v, .int .i64 num1] w (fun e w' => ∃ u PS, e = .returned u ∧ PS.map (·.1) = onlyL fs num1 ∧ w'.ownsRow w.heap.size 41 4 u PS.length (fcells PS) ∧ (∀ p ∈ PS, OwnB w' p) ∧ Grows w w') := by
  obtain ⟨i0, hi0, hz0, hz1, hz2⟩ := info_parts infoF
  obtain ⟨a, c, rfl, hnc, -⟩ := hp.shape
  have HP := Lib.hid hp
  have HLEN := Lib.hid hlen
  obtain ⟨n, hn⟩ : ∃ n, n = fs.length := ⟨_, rfl⟩
  rw [← hn] at hl hnc HP ⊢
  have HN := Lib.hid hn
  clear hp hn hlen
  go_enter Try.func21, Try.ntmps21
  go_wp2
  go_loopw [5, 10] (fun o' i wr => ∃ (k : Nat) (o : Value) (PS : List (Fld × Value)), k ≤ n ∧ o = o' ∧ i = .int .i64 (k : Int) ∧ Hid (PS.map (·.1) = onlyL (fs.take k) num1) ∧ Hid (wr.ownsRow w.heap.size 41 4 o PS.length (fcells PS)) ∧ Hid (∀ p ∈ PS, OwnB wr p) ∧ Hid (Grows w wr)) (fun _ i _ => n - (intOf i).toNat)
  case atStart => exact ⟨0, _, [], Nat.zero_le _, rfl, rfl, Lib.hid rfl, Lib.hid (World.ownsRow_nil _ _ _ _), Lib.hid (fun p hp => by cases hp), Lib.hid (Grows.refl _)⟩
  case round =>
    obtain ⟨k, o, PS, hk, rfl, rfl, HPSM, HO, HB, HG⟩ := hrel
    have HPSL : Hid (PS.length ≤ 1000) := Lib.hid (by have := congrArg List.length HPSM.out; have h2 := onlyL_len fs num1 k; rw [List.length_map] at this; omega)
    by_cases hlt : k < n
    · obtain ⟨f, hf⟩ : ∃ f, fs[k]? = some f := ⟨_, List.getElem?_eq_getElem (by rw [← HN.out]; exact hlt)⟩
      obtain ⟨ba, oa, bv, rfl, hba, b0, b1, b2, b3, hbs⟩ := HP.out.at_ hf
      have c0 := (Below.cell HG.out (p := ⟨ba, oa + k * 4, none⟩) hba).trans b0
      have c1 := (Below.cell HG.out (p := ⟨ba, oa + k * 4 + 1, none⟩) hba).trans b1
      have c2 := (Below.cell HG.out (p := ⟨ba, oa + k * 4 + 2, none⟩) hba).trans b2
      have c3 := (Below.cell HG.out (p := ⟨ba, oa + k * 4 + 3, none⟩) hba).trans b3
      have HYES := Lib.hid (fun h => onlyL_yes (num := num1) hf h)
      have HNO := Lib.hid (fun h => onlyL_no (num := num1) hf h)
      have HBL := Lib.hid (HLEN.out f (List.mem_of_getElem? hf))
      obtain ⟨num, kind, fn, bs⟩ := f
      simp only at c0 c1 c2 c3 hbs HYES HNO HBL
      have HCL := Lib.hid (fun w' (hg : Grows w w') => bclone_any bv bs w' (hbs.grows hg) (by have := HBL.out; omega))
      obtain ⟨av, cv, hsv⟩ := hbs.shape
      subst hsv
      obtain ⟨ln, hln⟩ : ∃ x, x = bs.length := ⟨_, rfl⟩
      rw [← hln] at c3 HCL
      have HLN := Lib.hid hln
      have HG1 := Lib.hid (HG.out.al (.cells #[.int .i64 num, .int .i64 kind, .int .u64 (fn : Int), .slice av ln cv] 41))
      clear hln b0 b1 b2 b3 hf hbs hba
      by_cases he : num = num1
      · subst he
        have HS := Lib.hid (HYES.out rfl)
        clear HYES HNO
        go_wp2_with fail
        refine (HCL.out _ HG1.out).mono ?_
        rintro _ w1 ⟨u, rfl, hu, hg⟩
        obtain ⟨au, cu, rfl, hub⟩ := own_shape hu
        have hb := hg.block (heap_new wr (.cells #[.int .i64 num, .int .i64 kind, .int .u64 (fn : Int), .slice av ln cv] 41) _ rfl)
        have HB2 := Lib.hid (set_three (s3 := .slice au ln cu) hb)
        have G1 := (Grows.alloc wr (.cells #[.int .i64 num, .int .i64 kind, .int .u64 (fn : Int), .slice av ln cv] 41)).trans hg
        have HGW := Lib.hid (G1.st (p := ⟨wr.heap.size, 3, none⟩) (Nat.le_refl _) (.slice au ln cu))
        have HU2 : Hid (OwnB (w1.setCell ⟨wr.heap.size, 3, none⟩ (.slice au ln cu)) (⟨num, kind, fn, bs⟩, .slice au ln cu)) := Lib.hid (by
          have h1 := hu.kept (grown_set w1 wr.heap.size 3 (.slice au ln cu)) (by
            cases hbb : ((.slice au ln cu : Value)).ownBlock with
            | none => exact .inl rfl
            | some k =>
              right
              intro e
              have h1 := hub k hbb
              injection e with e
              rw [World.size_alloc] at h1
              omega)
          have h2 := own_zero h1
          rw [HLN.out] at h2 ⊢
          exact h2)
        have hfz := frozz hb
        obtain ⟨e0, e1, e2, e3⟩ := cells4f HB2.out
        obtain ⟨d0, d1, d2, d3⟩ := cells4f hb
        have HO1 := Lib.hid (ownsRow_later (ownsRow_later HO.out HGW.out) (Grows.alloc _ (.cells #[.int .i64 num, .int .i64 kind, .int .u64 (fn : Int), .slice au ln cu] 41)))
        have HGA := Lib.hid ((HG.out.trans HGW.out).al (.cells #[.int .i64 num, .int .i64 kind, .int .u64 (fn : Int), .slice au ln cu] 41))
        have HBA : Hid (∀ p ∈ PS, OwnB ((w1.setCell ⟨wr.heap.size, 3, none⟩ (.slice au ln cu)).alloc (.cells #[.int .i64 num, .int .i64 kind, .int .u64 (fn : Int), .slice au ln cu] 41)) p) := Lib.hid (fun p hp => ((HB.out p hp).grows HGW.out).grows (Grows.alloc _ _))
        have HUA := Lib.hid (HU2.out.grows (Grows.alloc _ (.cells #[.int .i64 num, .int .i64 kind, .int .u64 (fn : Int), .slice au ln cu] 41)))
        have hsz : wr.heap.size < w1.heap.size := by have := hg.size; rw [World.size_alloc] at this; omega
        clear hu hg hub G1 HCL HG1 hb
        go_wp2_with (at_builtin; go_loud (refine append_row2 rfl _ _ 22 rfl w.heap.size 41 i0 _ 4 48 Try.underlying22 hi0 hz0 hz1 hz2 rfl (by decide) o PS.length (fcells PS) rfl HO1.out 1 [.int .i64 num, .int .i64 kind, .int .u64 (fn : Int), .slice au ln cu] _ rfl (row_four (heap_new _ _ _ (by first | rfl | (simp only [World.setCell]; rw [Array.size_modify]) | simp [World.setCell])) rfl rfl rfl rfl) (by unfold maxLen; have := HPSL.out; omega) (by have := HPSL.out; omega) HGA.out.size ?_; intro o2 w2 hown hgr; have HO2 := Lib.hid hown; have HG2 := Lib.hid (grown_all HO1.out HGA.out hgr); have HBB : Hid (∀ p ∈ PS ++ [(⟨num, kind, fn, bs⟩, .slice au ln cu)], OwnB w2 p) := Lib.hid (fun p hp => (List.mem_append.1 hp).elim (fun h => own_other HO1.out (HBA.out p h) (by decide) hgr) (fun h => by rw [List.mem_singleton] at h; subst h; exact own_other HO1.out HUA.out (by decide) hgr)); clear hown hgr HO1 HGA HBA HUA))
        exact ⟨⟨k + 1, _, PS ++ [(⟨num, kind, fn, bs⟩, .slice au ln cu)], by omega, rfl, by simp, Lib.hid (by rw [HS.out, List.map_append, HPSM.out]; rfl), Lib.hid (by rw [fcells_snoc, List.length_append]; exact HO2.out), HBB, HG2⟩, by simp only [intOf]; omega⟩
      · have b1 : (num == num1) = false := by rw [beq_eq_false_iff_ne]; exact he
        have HS := Lib.hid (HNO.out he)
        clear HYES HNO he HCL
        have HO1 := Lib.hid (ownsRow_later HO.out (Grows.alloc _ (.cells #[.int .i64 num, .int .i64 kind, .int .u64 (fn : Int), .slice av ln cv] 41)))
        have HBA : Hid (∀ p ∈ PS, OwnB (wr.alloc (.cells #[.int .i64 num, .int .i64 kind, .int .u64 (fn : Int), .slice av ln cv] 41)) p) := Lib.hid (fun p hp => (HB.out p hp).grows (Grows.alloc _ _))
        go_wp2
        exact ⟨⟨k + 1, _, PS, by omega, rfl, by simp, Lib.hid (by rw [HS.out]; exact HPSM.out), HO1, HBA, HG1⟩, by simp only [intOf]; omega⟩
    · obtain rfl : k = n := by omega
      go_wp2
      go_ret
      have h := HPSM.out
      rw [List.take_of_length_le (by rw [HN.out]; exact Nat.le_refl _)] at h
      exact ⟨o, PS, rfl, h, HO.out, HB.out, HG.out⟩
end Go.Proofs.Ytdiciboaehdckaa
