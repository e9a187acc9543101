/-
  Layer 2: the cuts, in their order, without what comes twice.
-/
import Derived.Test.YtlgplhanhnjeiaaS10
import Derived.WalkMore
namespace Go.Proofs.Ytlgplhanhnjeiaa
open Go.RowKit Go.Tab Go.Sort

/-- Cuts without what comes twice. -/
def dedF (b : Pt) : Pt → List Cut → List Pt
  | _, [] => []
  | l, c :: r => if c.1 = l ∨ c.1 = b then dedF b l r else c.1 :: dedF b c.1 r
theorem own4_cells {w : World} {B : Nat} {T : TypeId} {g n cap : Nat} {L : List Cut} (h : w.ownsRow B T 4 (.slice (some ⟨g, 0, none⟩) n cap) n (ccells L)) (hn : L.length = n) {i : Nat} (hi : i < n) :
    w.cell? ⟨g, i * 4, none⟩ = some (.int .i64 L[i]!.1.1) ∧ w.cell? ⟨g, i * 4 + 1, none⟩ = some (.int .i64 L[i]!.1.2) ∧ w.cell? ⟨g, i * 4 + 2, none⟩ = some (.int .i64 L[i]!.2.1) ∧ w.cell? ⟨g, i * 4 + 3, none⟩ = some (.int .i64 L[i]!.2.2) := by
  have hg := fun j (hj : j < 4) => flatMap_get encC_len (by omega) L (i * 4 + j) (by omega)
  have hd := fun j (hj : j < 4) => (show (i * 4 + j) / 4 = i by omega)
  have hm := fun j (hj : j < 4) => (show (i * 4 + j) % 4 = j by omega)
  have key := fun j (hj : j < 4) => (show w.cell? ⟨g, i * 4 + j, none⟩ = some ((encC L[i]!)[j]!) by
    have := (h.cellAt (i * 4 + j) (by omega)).trans (hg j hj)
    rw [hd j hj, hm j hj] at this
    exact this)
  have k0 := key 0 (by omega)
  have k1 := key 1 (by omega)
  have k2 := key 2 (by omega)
  have k3 := key 3 (by omega)
  exact ⟨k0, k1, k2, k3⟩

theorem infoPt2 : (Try.prog.info? 23).map (fun i => (i.zero, i.size, i.bytes)) = some (some (.agg #[.int .i64 0, .int .i64 0]), 2, 16) := by kernel_rfl
theorem row_two {w : World} {b : Nat} {x y : Value} {T : TypeId} (h : w.heap[b]? = some (.cells #[x, y] T (0, 0))) (h1 : x.oneCell' = true) (h2 : y.oneCell' = true) : RowAt 2 w (.slice (some ⟨b, 0, none⟩) 1 1) 1 [x, y] := by
  refine ⟨rfl, ?_, .inr ⟨b, 0, 1, rfl, (Array.getElem?_eq_some_iff.1 h).1, fun j v hj => ?_⟩⟩
  · intro v hv
    simp only [List.mem_cons, List.not_mem_nil, or_false] at hv
    rcases hv with rfl | rfl <;> assumption
  · match j, hj with
    | 0, hj => simp at hj; subst hj; simp [World.cell?, h]
    | 1, hj => simp at hj; subst hj; simp [World.cell?, h]
    | j + 2, hj => simp at hj
/-- A block below an owned row's base stays when the row grows. -/
theorem grown_low {w w' : World} {B : Nat} {T : TypeId} {s n b : Nat} {v : Value} {xs : List Value} {X : Obj} (ho : w.ownsRow B T s v n xs) (hb : w.heap[b]? = some X) (hB : b < B) (hg : w.grownBy w' v.ownBlock) : w'.heap[b]? = some X := by
  rw [hg.block b (Array.getElem?_eq_some_iff.1 hb).1 (fun he => by have := (ho.lt b he.symm).1; omega)]
  exact hb
theorem own_of_heap {w w' : World} {B : Nat} {T : TypeId} {s n : Nat} {v : Value} {xs : List Value} (h : w.ownsRow B T s v n xs) (he : ∀ g, v.ownBlock = some g → w'.heap[g]? = w.heap[g]?) : w'.ownsRow B T s v n xs := by
  obtain ⟨h0, h1 | ⟨g, cap, cur, rfl, hb, hh, rest⟩⟩ := h
  · exact ⟨h0, .inl h1⟩
  · exact ⟨h0, .inr ⟨g, cap, cur, rfl, hb, (he g rfl).trans hh, rest⟩⟩
theorem own_ne_type {w : World} {B : Nat} {T T' : TypeId} {s n b : Nat} {v : Value} {xs : List Value} {cs : Array Value} (h : w.ownsRow B T s v n xs) (hb : w.heap[b]? = some (.cells cs T' (0, 0))) (hT : T ≠ T') : ∀ g, v.ownBlock = some g → g ≠ b := by
  intro g hg e
  subst e
  obtain ⟨h0, ⟨rfl, _⟩ | ⟨g', cap, cur, rfl, hb', hh, rest⟩⟩ := h
  · cases hg
  · cases hg
    rw [hh] at hb
    injection hb with hb
    injection hb with _ hb
    exact hT hb

set_option maxRecDepth 100000 in
set_option maxHeartbeats 4000000 in
theorem Cuts_of (a b : Pt) (v u : Value) (xs ys : List Int) (s : List Cut) (w : World) (hx : IntsAt w v xs) (hy : IntsAt w u ys) (hlx : xs.length ≤ 1000) (hly : ys.length ≤ 1000) (hsl : s.length = (cutsF a b xs ys).length)
    (hsort : ∀ B o W, W.ownsRow B 61 4 o (cutsF a b xs ys).length (ccells (cutsF a b xs ys)) → Sorts 30 #[o, .func (.func 31) #[] #[]] o (cutsF a b xs ys) s B W) :
    Calls Try.prog 17 #[pp a, pp b, v, u] w (fun e w' => ∃ o, e = .returned o ∧ w'.ownsRow w.heap.size 23 2 o (dedF b a s).length (flat (dedF b a s)) ∧ Grows w w') := by
  obtain ⟨i0, hi0, hz0, hz1, hz2⟩ := info_parts infoPt2
  have HC := Lib.hid (fun w' (hg : Grows w w') => cuts_any a b v u xs ys w' (hx.grows hg) (hy.grows hg) hlx hly)
  have hle : (cutsF a b xs ys).length ≤ 2000 := by
    unfold cutsF
    rw [List.length_append]
    have h1 := List.length_filterMap_le (cutX a b) xs
    have h2 := List.length_filterMap_le (cutY a b) ys
    omega
  obtain ⟨av, cv, rfl, -, -⟩ := hx.shape
  obtain ⟨au, cu, rfl, -, -⟩ := hy.shape
  generalize cutsF a b xs ys = L at hsort hsl hle HC
  obtain ⟨n, hn⟩ : ∃ n, n = L.length := ⟨_, rfl⟩
  unfold Sorts at hsort
  rw [← hn] at hsort hsl hle
  rw [hn] at hsort
  have HS := Lib.hid hsort
  have HSL := Lib.hid hsl
  have HN := Lib.hid hn
  clear hx hy hsort hsl hn
  obtain ⟨ax, ay⟩ := a
  obtain ⟨bx, b_y⟩ := b
  unfold pp at HC ⊢
  simp only at HC ⊢
  go_enter Try.func17, Try.ntmps17
  go_wp2_with fail
  have B3 := Lib.hid ((Grows.alloc _ (.cells #[.int .i64 bx, .int .i64 b_y] 23)).block (heap_new w (.cells #[.int .i64 ax, .int .i64 ay] 23) _ rfl))
  have B4 := Lib.hid (heap_new (w.alloc (.cells #[.int .i64 ax, .int .i64 ay] 23)) (.cells #[.int .i64 bx, .int .i64 b_y] 23) (w.heap.size + 1) (by simp))
  have G := Lib.hid (((Grows.refl w).al (.cells #[.int .i64 ax, .int .i64 ay] 23)).al (.cells #[.int .i64 bx, .int .i64 b_y] 23))
  generalize (w.alloc (.cells #[.int .i64 ax, .int .i64 ay] 23)).alloc (.cells #[.int .i64 bx, .int .i64 b_y] 23) = wq at B3 B4 G ⊢
  obtain ⟨c30, c31, -, -⟩ := cells2 B3.out
  obtain ⟨c40, c41, -, -⟩ := cells2 B4.out
  go_step3
  go_wp2_with (go_at_call 29; refine (HC.out _ G.out).mono ?_; rintro e w1 ⟨o1, rfl, HO1, HG1⟩)
  refine (HS.out _ _ _ HO1).mono ?_
  have HO1 := Lib.hid HO1
  have HG1 := Lib.hid HG1
  rintro e w2 ⟨rfl, HO2, HGB⟩
  have G2 := Lib.hid (G.out.trans (grown_all HO1.out HG1.out HGB))
  have E3 := Lib.hid ((grown_all HO1.out HG1.out HGB).block B3.out)
  have E4 := Lib.hid ((grown_all HO1.out HG1.out HGB).block B4.out)
  have HLT := Lib.hid (show w.heap.size + 1 < w2.heap.size from (Array.getElem?_eq_some_iff.1 E4.out).1)
  have HO2 := Lib.hid (own_base (base' := 0) HO2 (Nat.zero_le _))
  rw [← HN.out] at HO2
  clear HGB HO1 HG1 B3 B4 G c30 c31 c40 c41 HC HS HN
  obtain ⟨c30, c31, -, -⟩ := cells2 E3.out
  obtain ⟨c40, c41, -, -⟩ := cells2 E4.out
  obtain ⟨ao, co, ho, hao⟩ : ∃ ao co, o1 = .slice ao n co ∧ (0 < n → ∃ g, ao = some ⟨g, 0, none⟩) := by
    obtain ⟨-, ⟨hv, h0⟩ | ⟨g, cap, cur, hv, -⟩⟩ := HO2.out
    · exact ⟨none, 0, by rw [hv, h0], fun h => by omega⟩
    · exact ⟨_, _, hv, fun _ => ⟨g, rfl⟩⟩
  subst ho
  have HA := Lib.hid hao
  clear hao
  go_wp2_with fail
  have E3 := Lib.hid ((Grows.alloc w2 (.cells #[.int .i64 ax, .int .i64 ay] 23)).block E3.out)
  have E4 := Lib.hid ((Grows.alloc w2 (.cells #[.int .i64 ax, .int .i64 ay] 23)).block E4.out)
  have E5 := Lib.hid (heap_new w2 (.cells #[.int .i64 ax, .int .i64 ay] 23) _ rfl)
  have HO2 := Lib.hid (ownsRow_grows HO2.out (Grows.alloc w2 (.cells #[.int .i64 ax, .int .i64 ay] 23)))
  have G2 := Lib.hid (G2.out.trans (Grows.alloc w2 (.cells #[.int .i64 ax, .int .i64 ay] 23)))
  have hsz : (w2.alloc (.cells #[.int .i64 ax, .int .i64 ay] 23)).heap.size = w2.heap.size + 1 := by simp
  have HWN := Lib.hid (show w.heap.size + 1 < w2.heap.size from HLT.out)
  generalize w2.alloc (.cells #[.int .i64 ax, .int .i64 ay] 23) = wl at E3 E4 E5 HO2 G2 hsz ⊢
  generalize w2.heap.size = N at E5 hsz HWN ⊢
  have HSZ := Lib.hid hsz
  clear hsz c30 c31 c40 c41
  go_step3
  go_wp2_with fail
  clear HO1 HG1
  go_loopw [10, 24] (fun o' i wr => ∃ (k : Nat) (o : Value) (acc : List Pt) (lx ly : Int), k ≤ n ∧ o = o' ∧ i = .int .i64 (k : Int) ∧ Hid (wr.ownsRow (N + 1) 23 2 o acc.length (flat acc)) ∧ Hid (wr.heap[N]? = some (.cells #[.int .i64 lx, .int .i64 ly] 23 (0, 0))) ∧ Hid (wr.heap[w.heap.size + 1]? = some (.cells #[.int .i64 bx, .int .i64 b_y] 23 (0, 0))) ∧ Hid (wr.ownsRow 0 61 4 (.slice ao n co) n (ccells s)) ∧ Hid (Grows w wr) ∧ Hid (acc ++ dedF (bx, b_y) (lx, ly) (s.drop k) = dedF (bx, b_y) (ax, ay) s) ∧ acc.length ≤ k) (fun _ i _ => n - (intOf i).toNat)
  case atStart => exact ⟨0, _, [], ax, ay, Nat.zero_le _, rfl, rfl, Lib.hid (World.ownsRow_nil _ _ _ _), E5, E4, HO2, G2, Lib.hid rfl, Nat.le_refl _⟩
  case round =>
    obtain ⟨k, o, acc, lx, ly, hkn, rfl, rfl, HO, HL, HB, HF, HG, HD, hal⟩ := hrel
    by_cases hlt : k < n
    · obtain ⟨g, rfl⟩ := HA.out (by omega)
      obtain ⟨f0, f1, f2, f3⟩ := own4_cells HF.out HSL.out hlt
      have HNR := Lib.hid (Array.getElem?_eq_some_iff.1 HL.out).1
      have HDK : Hid (s.drop k = s[k]! :: s.drop (k + 1)) := Lib.hid (by rw [List.drop_eq_getElem_cons (by rw [HSL.out]; exact hlt), getElem!_pos s k (by rw [HSL.out]; exact hlt)])
      obtain ⟨⟨⟨px, py⟩, pf, pd⟩, hpk⟩ : ∃ c, c = s[k]! := ⟨_, rfl⟩
      rw [← hpk] at f0 f1 f2 f3 HDK
      clear hpk
      simp only at f0 f1 f2 f3
      rw [HDK.out] at HD
      clear HDK
      have hltz : (k : Int) < (n : Int) := by omega
      have hk0 : (0 : Int) ≤ (k : Int) := by omega
      have hkb : k < 2000 := by omega
      obtain ⟨l0, l1, -, -⟩ := cells2 ((Grows.alloc wr (.cells #[.int .i64 px, .int .i64 py, .int .i64 pf, .int .i64 pd] 61)).block HL.out)
      obtain ⟨b0, b1, -, -⟩ := cells2 ((Grows.alloc wr (.cells #[.int .i64 px, .int .i64 py, .int .i64 pf, .int .i64 pd] 61)).block HB.out)
      go_upto_region 8 with (fail)
      have HC0 := Lib.hid (heap_new wr (.cells #[.int .i64 px, .int .i64 py, .int .i64 pf, .int .i64 pd] 61) _ rfl)
      have HL := Lib.hid ((Grows.alloc wr (.cells #[.int .i64 px, .int .i64 py, .int .i64 pf, .int .i64 pd] 61)).block HL.out)
      have HB := Lib.hid ((Grows.alloc wr (.cells #[.int .i64 px, .int .i64 py, .int .i64 pf, .int .i64 pd] 61)).block HB.out)
      have HF := Lib.hid (ownsRow_grows HF.out (Grows.alloc wr (.cells #[.int .i64 px, .int .i64 py, .int .i64 pf, .int .i64 pd] 61)))
      have HO := Lib.hid (ownsRow_grows HO.out (Grows.alloc wr (.cells #[.int .i64 px, .int .i64 py, .int .i64 pf, .int .i64 pd] 61)))
      have HG := Lib.hid (HG.out.trans (Grows.alloc wr (.cells #[.int .i64 px, .int .i64 py, .int .i64 pf, .int .i64 pd] 61)))
      have HLT := Lib.hid (show N < wr.heap.size from HNR.out)
      clear f0 f1 f2 f3 hltz
      generalize wr.alloc (.cells #[.int .i64 px, .int .i64 py, .int .i64 pf, .int .i64 pd] 61) = wc at HC0 HL HB HF HO HG l0 l1 b0 b1 ⊢
      generalize wr.heap.size = M at HC0 HLT ⊢
      obtain ⟨p0, p1, -, -⟩ := cells4q HC0.out
      generalize Value.agg #[.int .i64 px, .int .i64 py, .int .i64 pf, .int .i64 pd] = vc
      go_cut [37] from 28 to 45 (fun v wx => v = .bool (decide ((px = lx ∧ py = ly) ∨ px = bx ∧ py = b_y)) ∧ wx = wc)
      case first =>
        go_wp2_with fail
        all_goals
          go_meet
          first
            | exact ⟨congrArg Value.bool (decide_eq_true (by omega)).symm, rfl⟩
            | exact ⟨congrArg Value.bool (decide_eq_false (by omega)).symm, rfl⟩
      case rest =>
        obtain ⟨hv, hwc⟩ := hcut
        subst hwc
        by_cases hq : (px = lx ∧ py = ly) ∨ px = bx ∧ py = b_y
        · rw [decide_eq_true hq] at hv
          subst hv
          have HD2 : Hid (acc ++ dedF (bx, b_y) (lx, ly) (s.drop (k + 1)) = dedF (bx, b_y) (ax, ay) s) := Lib.hid (by rw [← HD.out]; congr 1; rw [dedF, if_pos (by simpa only [Prod.mk.injEq] using hq)])
          clear HD hq
          go_wp2_with fail
          exact ⟨⟨k + 1, o, acc, lx, ly, by omega, rfl, by simp, HO, HL, HB, HF, HG, HD2, by omega⟩, by simp only [intOf]; omega⟩
        · rw [decide_eq_false hq] at hv
          subst hv
          have HD2 : Hid (acc ++ (px, py) :: dedF (bx, b_y) (px, py) (s.drop (k + 1)) = dedF (bx, b_y) (ax, ay) s) := Lib.hid (by rw [← HD.out]; congr 1; rw [dedF, if_neg (by simpa only [Prod.mk.injEq] using hq)])
          clear HD hq
          have HC1 := Lib.hid ((Grows.alloc wc (.cells #[.int .i64 px, .int .i64 py] 23)).block HC0.out)
          have HL1 := Lib.hid ((Grows.alloc wc (.cells #[.int .i64 px, .int .i64 py] 23)).block HL.out)
          have HB1 := Lib.hid ((Grows.alloc wc (.cells #[.int .i64 px, .int .i64 py] 23)).block HB.out)
          have HF1 := Lib.hid (ownsRow_grows HF.out (Grows.alloc wc (.cells #[.int .i64 px, .int .i64 py] 23)))
          have HO1 := Lib.hid (ownsRow_grows HO.out (Grows.alloc wc (.cells #[.int .i64 px, .int .i64 py] 23)))
          have HG1 := Lib.hid (HG.out.trans (Grows.alloc wc (.cells #[.int .i64 px, .int .i64 py] 23)))
          have HN1 := Lib.hid (heap_new wc (.cells #[.int .i64 px, .int .i64 py] 23) _ rfl)
          have HLN := Lib.hid (Array.getElem?_eq_some_iff.1 HL1.out).1
          have HAL := Lib.hid hal
          have HKB := Lib.hid hkb
          clear HO HF HL HB HG HC0 l0 l1 b0 b1
          go_wp2_with (at_builtin; go_loud (refine append_row2 rfl _ _ 40 rfl (N + 1) 23 i0 _ 2 16 Try.underlying40 hi0 hz0 hz1 hz2 rfl (by decide) o acc.length (flat acc) rfl HO1.out 1 [.int .i64 px, .int .i64 py] _ rfl (row_two HN1.out rfl rfl) (by have := HAL.out; have := HKB.out; unfold maxLen; omega) (by have := HAL.out; have := HKB.out; omega) (by have := HLN.out; omega) ?_; intro o2 wd hown hgr; clear p0 p1; have HC2 := Lib.hid (grown_block HO1.out HC1.out (by decide) hgr); have HL2 := Lib.hid (grown_low HO1.out HL1.out (Nat.lt_succ_self N) hgr); have HB2 := Lib.hid (grown_low HO1.out HB1.out (Nat.lt_succ_of_lt HWN.out) hgr); have HF2 := Lib.hid (own_other HO1.out HF1.out (by decide) hgr); have HG2 := Lib.hid (Below.grown HG1.out hgr HG1.out.size (fun q hq => (by have := (HO1.out.lt q hq).1; have := HWN.out; omega))); have HO2 := Lib.hid hown; obtain ⟨p0, p1, -, -⟩ := cells4q HC2.out; obtain ⟨l0, l1, l2, l3⟩ := cells2 HL2.out; clear HC1 HL1 HB1 HF1 HO1 HG1 HN1 hown hgr))
          have hN1 : ∀ q, (o2.ownBlock = some q) → q ≠ N := fun q hq => by have := (HO2.out.lt q hq).1; omega
          have hN2 := own_ne_type HF2.out HL2.out (by decide)
          have hS : ∀ q, q ≠ N → ((wd.setCell ⟨N, 0, none⟩ (.int .i64 px)).setCell ⟨N, 1, none⟩ (.int .i64 py)).heap[q]? = wd.heap[q]? := fun q hq => set2o hq
          have hwn := HWN.out
          have hfl : flat (acc ++ [(px, py)]) = flat acc ++ [.int .i64 px, .int .i64 py] := by simp [flat]
          refine ⟨⟨k + 1, o2, acc ++ [(px, py)], px, py, by omega, rfl, by simp, Lib.hid (own_of_heap (by rw [List.length_append, hfl]; exact HO2.out) (fun q hq => hS q (hN1 q hq))), Lib.hid (set2 HL2.out), Lib.hid ((hS _ (by omega)).trans HB2.out), Lib.hid (own_of_heap HF2.out (fun q hq => hS q (hN2 q hq))), Lib.hid ((HG2.out.setCell (by show w.heap.size ≤ N; omega) _).setCell (by show w.heap.size ≤ N; omega) _), Lib.hid (by rw [List.append_assoc]; exact HD2.out), by rw [List.length_append]; exact Nat.add_le_add_right hal 1⟩, by simp only [intOf]; omega⟩
    · obtain rfl : k = n := by omega
      go_wp2_with fail
      rw [Exit.noGoto_ret]
      go_ret
      have hd : acc = dedF (bx, b_y) (ax, ay) s := by
        rw [← HD.out, List.drop_eq_nil_of_le (by rw [HSL.out]; exact Nat.le_refl _)]; simp [dedF]
      rw [← hd]
      exact ⟨o, rfl, own_base HO.out (by have := HWN.out; omega), HG.out⟩
end Go.Proofs.Ytlgplhanhnjeiaa
