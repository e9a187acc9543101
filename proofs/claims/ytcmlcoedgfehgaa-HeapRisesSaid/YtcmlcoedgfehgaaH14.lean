/-
  Layer 5: entries sorted.
-/
import Derived.Test.YtcmlcoedgfehgaaH13
namespace Go.Proofs.Ytcmlcoedgfehgaa
open Go.RowKit Go.Tab Go.WideShapes

def lenV : Value → Nat
  | .slice _ n _ => n
  | _ => 0
theorem flat3_cell {u : Value} (l : List Ent3) (hu : u ∈ flat3 l) : u.oneCell' = true := by
  unfold flat3 at hu
  obtain ⟨p, _, hp⟩ := List.mem_flatMap.1 hu
  simp only [List.mem_cons, List.not_mem_nil, or_false] at hp
  rcases hp with rfl | rfl | rfl <;> rfl

/-- A row of the call's own with these entries. -/
def RetEnts (l : List Ent3) (w : World) : Ending → World → Prop := fun r w' => ∃ v', r = .returned v' ∧ w'.ownsRow w.heap.size 30 3 v' l.length (flat3 l) ∧ Grows w w'

theorem own_step {w w' : World} {hb B n : Nat} {T : TypeId} {v v' o : Value} {xs : List Value} (h : w.ownsRow B T 3 o n xs) (hs : HStep w w' hb v v') (h1 : o.ownBlock ≠ some hb) (h2 : ∀ g, o.ownBlock = some g → v.ownBlock ≠ some g) : w'.ownsRow B T 3 o n xs := by
  obtain ⟨ha, hc | ⟨g', cap', cur, rfl, hbb, hh, rest⟩⟩ := h
  · exact ⟨ha, .inl hc⟩
  · exact ⟨ha, .inr ⟨_, _, cur, rfl, hbb, (hs.keep.block g' (Array.getElem?_eq_some_iff.1 hh).1 (fun e => h1 (by rw [← e]; rfl)) (h2 g' rfl)).trans hh, rest⟩⟩
theorem HeapAt.grown {w w' : World} {hb B : Nat} {v : Value} {L : List Ent3} {r : Option Nat} (h : HeapAt w hb B v L) (hg : w.grownBy w' r) (h1 : r ≠ some hb) (h2 : ∀ g, v.ownBlock = some g → r ≠ some g) : HeapAt w' hb B v L := by
  refine ⟨(hg.block hb h.lt (fun e => h1 e.symm)).trans h.blk, ?_, h.ne, Nat.le_trans h.base hg.size⟩
  obtain ⟨ha, hc | ⟨g', cap', cur, rfl, hbb, hh, rest⟩⟩ := h.own
  · exact ⟨ha, .inl hc⟩
  · exact ⟨ha, .inr ⟨_, _, cur, rfl, hbb, (hg.block g' (Array.getElem?_eq_some_iff.1 hh).1 (fun e => h2 g' rfl e.symm)).trans hh, rest⟩⟩

set_option maxRecDepth 100000 in
set_option maxHeartbeats 2000000 in
theorem sort_any (u : Value) (M : List Ent3) (w : World) (hu : EntsAt w u M) (hn : M.length ≤ 1000) :
    Calls Try.prog 18 #[u] w (RetEnts (srtE M) w) := by
  obtain ⟨i0, hi0, hz0, hz1, hz2⟩ := info_parts infoE
  have HU := Lib.hid hu
  have H0 : Hid (HeapAt (w.alloc (.cells #[.slice none 0 0] 27)) w.heap.size w.heap.size (.slice none 0 0) []) := Lib.hid
    ⟨heap_new _ _ _ rfl, ⟨rfl, .inl ⟨rfl, rfl⟩⟩, (fun h => by cases h), by simp only [World.size_alloc]; omega⟩
  have HF : Hid (Far u M w.heap.size (.slice none 0 0)) := Lib.hid (hu.far fun b hb _ => ⟨by omega, fun h => by cases h⟩)
  clear hu
  go_enter Try.func18, Try.ntmps18
  go_wp2_with fail
  refine (push_heap H0.out u M (HU.out.grows ((Grows.refl w).al _)) HF.out (by simpa using hn)).mono ?_
  rintro _ w1 ⟨rfl, v1, h1, s1⟩
  have H1 := Lib.hid h1
  have G1 : Hid (Grows w w1) := Lib.hid (s1.below ((Grows.refl w).al _) (Nat.le_refl _) (fun g hg => by cases hg))
  have HP : Hid (Heap (pushF [] M)) := Lib.hid (push_heapF heap_nil M)
  have HS : Hid (srtE (pushF [] M) = srtE M) := Lib.hid (by
    have := push_perm [] M
    rw [List.append_nil] at this
    exact srtE_unique (srtE_rises _) ((srtE_perm _).trans this))
  have HLn : Hid ((pushF [] M).length = M.length) := Lib.hid (by rw [pushF_len]; simp)
  clear h1 s1 H0 HF HU
  go_wp2
  go_loopw [4] (fun o wr => ∃ (D L' : List Ent3) (v' : Value), lenV o = D.length ∧ D.length + L'.length = M.length ∧ wr.ownsRow w.heap.size 30 3 o D.length (flat3 D) ∧ D ++ srtE L' = srtE M ∧ Heap L' ∧ HeapAt wr w.heap.size w.heap.size v' L' ∧ (∀ g, o.ownBlock = some g → g ≠ w.heap.size ∧ v'.ownBlock ≠ some g) ∧ Grows w wr) (fun o _ => M.length - lenV o)
  case atStart => exact ⟨[], pushF [] M, v1, rfl, by rw [HLn.out]; simp, ⟨rfl, .inl ⟨rfl, rfl⟩⟩, by rw [List.nil_append]; exact HS.out, HP.out, H1.out, (fun g hg => by cases hg), G1.out⟩
  case round =>
    obtain ⟨D, L', v', hlo, hDL, hown, hsrt, hheap, hat, hfar, hg⟩ := hrel
    have HO := Lib.hid hown
    have HSR := Lib.hid hsrt
    have HH := Lib.hid hheap
    have HA := Lib.hid hat
    have HFA := Lib.hid hfar
    have G := Lib.hid hg
    clear hown hsrt hheap hat hfar hg
    go_wp2_with fail
    refine (len_heap HA.out (by omega)).mono ?_
    rintro _ w2 ⟨rfl, hg2⟩
    have HA2 := Lib.hid (HA.out.grows hg2)
    have HO2 := Lib.hid (ownsRow_grows' HO.out hg2)
    have G2 := Lib.hid (G.out.trans hg2)
    clear hg2
    by_cases hL : 0 < L'.length
    · have HV := Lib.hid (srtE_heap HH.out hL)
      have HT : Hid (topV L' = .tuple #[en (ge L' 0), .bool true]) := Lib.hid (by unfold topV; rw [decide_eq_true hL])
      go_wp2_with fail
      refine (pop_heap HA2.out (by omega)).mono ?_
      rintro _ w3 ⟨rfl, v3, h3, s3⟩
      rw [HT.out]
      have HL3 : Hid ((popF L').length + 1 = L'.length) := Lib.hid (by have := (pop_perm hL).length_eq; rw [List.length_cons] at this; exact this)
      have H3 := Lib.hid h3
      have HO3 := Lib.hid (own_step HO2.out s3 (fun he => (HFA.out _ he).1 rfl) (fun g hg => (HFA.out g hg).2))
      have HF3 : Hid (∀ g, u4.ownBlock = some g → g ≠ w.heap.size ∧ v3.ownBlock ≠ some g) := Lib.hid fun g hg => ⟨(HFA.out g hg).1, fun he => by
        rcases s3.row with hr | hr
        · exact (HFA.out g hg).2 (hr ▸ he)
        · have := hr g he
          have := (own_lt HO2.out hg).2
          omega⟩
      have G3 := Lib.hid (s3.below G2.out (Nat.le_refl _) (fun g hg => (own_lt HA2.out.own hg).1))
      have HP3 := Lib.hid (pop_heapF HH.out)
      clear h3 s3 HA HA2 HO HO2 HFA G G2 HH HT
      generalize ge L' 0 = ex at HV ⊢
      obtain ⟨xa, xb, xc⟩ := ex
      obtain ⟨k0, k1, k2, _⟩ := cells3 (heap_new w3 (.cells #[.int .i64 xa, .int .i64 xb, .int .i64 xc] 30) _ rfl)
      have GA : Hid (Grows w3 ((w3.alloc (.cells #[.int .i64 xa, .int .i64 xb, .int .i64 xc] 30)).alloc (.cells #[.int .i64 xa, .int .i64 xb, .int .i64 xc] 30))) := Lib.hid (((Grows.refl w3).al _).al _)
      have hnew : ((w3.alloc (.cells #[.int .i64 xa, .int .i64 xb, .int .i64 xc] 30)).alloc (.cells #[.int .i64 xa, .int .i64 xb, .int .i64 xc] 30)).heap[w3.heap.size + 1]? = some (.cells #[.int .i64 xa, .int .i64 xb, .int .i64 xc] 30 (0, 0)) := heap_new _ _ _ (by simp only [World.size_alloc])
      have hsz := G3.out.size
      go_wp2_with (at_builtin; refine wpList_append_lies _ (by rfl) _ _ 23 rfl w.heap.size 30 i0 _ 3 24 Try.underlying23 hi0 hz0 hz1 hz2 rfl (by omega) u4 D.length (flat3 D) (by rfl) (ownsRow_grows' HO3.out GA.out) ⟨w3.heap.size + 1, 0, none⟩ 1 1 [.int .i64 xa, .int .i64 xb, .int .i64 xc] (by rfl) (by rfl) (World.news_of_block (cs := #[.int .i64 xa, .int .i64 xb, .int .i64 xc]) (t := 30) (fr := (0, 0)) hnew) (by simp [Value.oneCell']) (by omega) (by unfold maxLen; omega) (by omega) (by simp only [World.size_alloc]; omega) (w3.heap.size + 1 + 1) (by simp only [World.size_alloc]) ?_; intro g cap w5 hown5 hgr5 hg5 hlt5; have HO5 := Lib.hid hown5; have HG5 := Lib.hid hgr5; have HB5 := Lib.hid hg5; clear hown5 hgr5 hg5)
      have hgn : g ≠ w.heap.size ∧ v3.ownBlock ≠ some g := by
        rcases HB5.out with h | h
        · exact HF3.out g h
        · exact ⟨by omega, fun he => by have := (own_lt H3.out.own he).2; omega⟩
      have H5 := Lib.hid ((H3.out.grows GA.out).grown HG5.out (fun he => (HF3.out _ he).1 rfl) (fun g' hg' he => (HF3.out g' he).2 hg'))
      have G5 := Lib.hid (Below.grown (G3.out.trans GA.out) HG5.out (by have := GA.out.size; omega) (fun kk hkk => (own_lt HO3.out hkk).1))
      go_wp2
      refine ⟨⟨D ++ [(xa, xb, xc)], popF L', v3, ?_, ?_, ?_, ?_, HP3.out, H5.out, ?_, G5.out⟩, ?_⟩
      · rw [List.length_append]; rfl
      · rw [List.length_append, List.length_singleton]; have := HL3.out; omega
      · rw [List.length_append, flat3_append]; exact HO5.out
      · rw [List.append_assoc]
        rw [HV.out] at HSR
        exact HSR.out
      · intro g' hg'
        cases hg'
        exact hgn
      · show M.length - (D.length + 1) < M.length - lenV u4
        have := HL3.out
        omega
    · have hL0 : L' = [] := List.length_eq_zero_iff.1 (by omega)
      subst hL0
      have HSR2 : Hid (D = srtE M) := Lib.hid (by rw [← HSR.out]; exact (List.append_nil D).symm)
      go_wp2
      go_ret
      exact ⟨_, rfl, HSR2.out ▸ HO2.out, G2.out⟩
end Go.Proofs.Ytcmlcoedgfehgaa
