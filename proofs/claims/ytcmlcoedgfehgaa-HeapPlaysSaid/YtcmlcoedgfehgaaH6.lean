/-
  Layer 5: a heap's memory; an entry taken away.
-/
import Derived.Test.YtcmlcoedgfehgaaH4
import Derived.Test.YtcmlcoedgfehgaaH5
namespace Go.Proofs.Ytcmlcoedgfehgaa
open Go.RowKit Go.Tab Go.WideShapes

/-- A heap: its block holds its row's value, its row reads as these entries. -/
structure HeapAt (w : World) (hb B : Nat) (v : Value) (L : List Ent3) : Prop where
  blk : w.heap[hb]? = some (.cells #[v] 27 (0, 0))
  own : w.ownsRow B 30 3 v L.length (flat3 L)
  ne : v.ownBlock ≠ some hb
  base : B ≤ w.heap.size
theorem HeapAt.grows {w w' : World} {hb B : Nat} {v : Value} {L : List Ent3} (h : HeapAt w hb B v L) (hg : Grows w w') : HeapAt w' hb B v L :=
  ⟨hg.block h.blk, ownsRow_grows' h.own hg, h.ne, Nat.le_trans h.base hg.size⟩
theorem HeapAt.lt {w : World} {hb B : Nat} {v : Value} {L : List Ent3} (h : HeapAt w hb B v L) : hb < w.heap.size := (Array.getElem?_eq_some_iff.1 h.blk).1
theorem own_lt {w : World} {B : Nat} {T : TypeId} {s n : Nat} {v : Value} {xs : List Value} (h : w.ownsRow B T s v n xs) {g : Nat} (hg : v.ownBlock = some g) : B ≤ g ∧ g < w.heap.size := by
  obtain ⟨_, ⟨rfl, _⟩ | ⟨g', cap', cur, rfl, hb', hh, _⟩⟩ := h
  · cases hg
  · cases hg; exact ⟨hb', (Array.getElem?_eq_some_iff.1 hh).1⟩

/-- Nothing turns but a heap's own block and its row's. -/
structure HStep (w w' : World) (hb : Nat) (v v' : Value) : Prop where
  keep : Keep2 w w' hb v.ownBlock
  row : v'.ownBlock = v.ownBlock ∨ ∀ g, v'.ownBlock = some g → w.heap.size ≤ g
theorem HStep.of {w w' : World} (hb : Nat) (v : Value) (h : Grows w w') : HStep w w' hb v v :=
  ⟨⟨h.os, h.tape, h.output, h.size, fun k hk _ _ => Below.block h k hk⟩, .inl rfl⟩
theorem HStep.trans {a b c : World} {hb : Nat} {v v1 v2 : Value} (h1 : HStep a b hb v v1) (h2 : HStep b c hb v1 v2) : HStep a c hb v v2 := by
  refine ⟨⟨h2.keep.os.trans h1.keep.os, h2.keep.tape.trans h1.keep.tape, h2.keep.output.trans h1.keep.output, Nat.le_trans h1.keep.size h2.keep.size, fun k hk hne hr => ?_⟩, ?_⟩
  · rw [h2.keep.block k (Nat.lt_of_lt_of_le hk h1.keep.size) hne, h1.keep.block k hk hne hr]
    rcases h1.row with h | h
    · rw [h]; exact hr
    · intro he; have := h k he; omega
  · rcases h2.row with h | h
    · rw [h]; exact h1.row
    · right; intro g hg; have := h g hg; have := h1.keep.size; omega
theorem HStep.grows {a b c : World} {hb : Nat} {v v' : Value} (h : HStep a b hb v v') (hg : Grows b c) : HStep a c hb v v' := h.trans (HStep.of hb v' hg)
theorem HStep.after {a b c : World} {hb : Nat} {v v' : Value} (hg : Grows a b) (h : HStep b c hb v v') : HStep a c hb v v' := (HStep.of hb v hg).trans h
/-- What was there ahead of the heap stays. -/
theorem HStep.below {W w w' : World} {hb : Nat} {v v' : Value} (h : HStep w w' hb v v') (hg : Grows W w) (hh : W.heap.size ≤ hb) (hr : ∀ g, v.ownBlock = some g → W.heap.size ≤ g) : Grows W w' := by
  refine ⟨h.keep.os.trans hg.os, h.keep.tape.trans hg.tape, h.keep.output.trans hg.output, Nat.le_trans hg.size h.keep.size, fun k hk => ?_⟩
  rw [h.keep.block k (Nat.lt_of_lt_of_le hk hg.size) (by omega) (fun he => by have := hr k he; omega)]
  exact Below.block hg k hk
theorem HStep.cell {w w' : World} {hb : Nat} {v v' : Value} (h : HStep w w' hb v v') {p : Addr} (hp : p.block < w.heap.size) (h1 : p.block ≠ hb) (h2 : v.ownBlock ≠ some p.block) : w'.cell? p = w.cell? p := by
  have := h.keep.block p.block hp h1 h2
  simp [World.cell?, this]

def HPost (val : Value) (L' : List Ent3) (w : World) (hb B : Nat) (v : Value) : Ending → World → Prop := fun r w' => r = .returned val ∧ ∃ v', HeapAt w' hb B v' L' ∧ HStep w w' hb v v'

def addF (L : List Ent3) (e : Ent3) : List Ent3 := riseF (L ++ [e]) L.length
theorem add_heap {w : World} {hb B : Nat} {v : Value} {L : List Ent3} (h : HeapAt w hb B v L) (e : Ent3) (hn : L.length ≤ 1000) :
    Calls Try.prog 21 #[.pointer (some ⟨hb, 0, none⟩), en e] w (HPost (.tuple #[]) (addF L e) w hb B v) := by
  obtain ⟨x, y, z⟩ := e
  refine (add_any L B hb L.length v x y z w rfl hn h.base h.blk h.own h.ne (fun he => by have := own_lt h.own he; omega)).mono ?_
  rintro _ w' ⟨rfl, g, cap, h1, h2, h3, h4, h5, h6⟩
  have hl : (addF L (x, y, z)).length = L.length + 1 := by unfold addF; rw [riseF_len, List.length_append]; rfl
  refine ⟨rfl, _, ⟨h1, ?_, fun he => h3 (Option.some.inj he).symm, Nat.le_trans h.base h6.size⟩, h6, ?_⟩
  · rw [hl]; exact h2
  · rcases h5 with h5 | h5
    · exact .inl h5.symm
    · right; intro g' hg'; cases hg'; exact h5

theorem flat3_take (L : List Ent3) (k : Nat) : flat3 (L.take k) = (flat3 L).take (k * 3) := by
  induction L generalizing k with
  | nil => simp [flat3]
  | cons p L ih =>
    cases k with
    | zero => simp [flat3]
    | succ k =>
      have := ih k
      rw [Nat.succ_mul]
      simp only [flat3, List.flatMap_cons, List.take_succ_cons, List.cons_append, List.nil_append] at this ⊢
      rw [this]
theorem own3_take {w : World} {B : Nat} {T : TypeId} {g n cap m : Nat} {L : List Ent3} (h : w.ownsRow B T 3 (.slice (some ⟨g, 0, none⟩) n cap) n (flat3 L)) (hL : L.length = n) (hm : m ≤ n) :
    w.ownsRow B T 3 (.slice (some ⟨g, 0, none⟩) m cap) m (flat3 (L.take m)) := by
  obtain ⟨_, ⟨h1, _⟩ | ⟨g', cap', cur, hv, hb', hh, h1, h2, h3, h4⟩⟩ := h
  · cases h1
  · cases hv
    refine ⟨by rw [flat3_length, List.length_take]; omega, .inr ⟨_, _, cur, rfl, hb', hh, by omega, h2, h3, ?_⟩⟩
    rw [flat3_take, ← h4, List.take_take]
    congr 1
    omega

def baseF (L : List Ent3) (p : Nat) : List Ent3 := (L.set p (L.getD (L.length - 1) e0)).take (L.length - 1)
def removeF (L : List Ent3) (p : Nat) : List Ent3 := if p < L.length - 1 then sinkF (riseF (baseF L p) p) p else baseF L p
theorem baseF_len (L : List Ent3) (p : Nat) : (baseF L p).length = L.length - 1 := by unfold baseF; rw [List.length_take, List.length_set]; omega

set_option maxRecDepth 100000 in
set_option maxHeartbeats 4000000 in
theorem remove_any (L : List Ent3) (B hb g n cap p : Nat) (w : World) (hL : L.length = n) (hp : p < n) (hn : n ≤ 1000000) (hgb : ¬ hb = g)
    (hH : w.heap[hb]? = some (.cells #[.slice (some ⟨g, 0, none⟩) n cap] 27 (0, 0))) (hown : w.ownsRow B 30 3 (.slice (some ⟨g, 0, none⟩) n cap) n (flat3 L)) :
    Calls Try.prog 19 #[.pointer (some ⟨hb, 0, none⟩), iv p] w (fun e w' => e = .returned (.tuple #[]) ∧ w'.heap[hb]? = some (.cells #[.slice (some ⟨g, 0, none⟩) (n - 1) cap] 27 (0, 0)) ∧
      w'.ownsRow B 30 3 (.slice (some ⟨g, 0, none⟩) (n - 1) cap) (n - 1) (flat3 (removeF L p)) ∧ Keep2 w w' hb (some g)) := by
  have hgb' : ¬ g = hb := fun h => hgb h.symm
  obtain ⟨m, hm⟩ : ∃ m, m = n - 1 := ⟨_, rfl⟩
  have hn1 : (n : Int) - 1 = (m : Int) := by omega
  have hmn : m < n := by omega
  have hmle : m ≤ n := by omega
  have hcap : n ≤ cap := by
    obtain ⟨_, ⟨h1, _⟩ | ⟨g', cap', cur, hv, hb', hh, h1, h2, h3, h4⟩⟩ := hown
    · cases h1
    · cases hv; exact h1
  have hRM : removeF L p = if p < m then sinkF (riseF (baseF L p) p) p else baseF L p := by unfold removeF; rw [hL, hm]
  have hBL : (baseF L p).length = m := by rw [baseF_len, hL, hm]
  have hBF : baseF L p = (L.set p (L.getD m e0)).take m := by unfold baseF; rw [hL, hm]
  have c0 : w.cell? ⟨hb, 0, none⟩ = some (.slice (some ⟨g, 0, none⟩) n cap) := by simp [World.cell?, hH]
  have fb : w.frozen? ⟨hb, 0, none⟩ = false := by simp [World.frozen?, hH]
  obtain ⟨y1, y2, y3⟩ := own3_cells hown hL hmn
  obtain ⟨x1, x2, x3⟩ := own3_cells hown hL hp
  have f1 := hown.frozenAt (p * 3)
  have f2 := hown.frozenAt (p * 3 + 1)
  have f3 := hown.frozenAt (p * 3 + 2)
  have S1 := Lib.hid (own3_set hown hL hp (L.getD m e0))
  generalize hax : L.getD m e0 = ax at S1 y1 y2 y3 hBF
  obtain ⟨pa, pb, pc⟩ := ax
  simp only at y1 y2 y3
  rw [← hm]
  have HRM := Lib.hid hRM
  have HBL := Lib.hid hBL
  have HBF := Lib.hid hBF
  have Own := Lib.hid hown
  have H := Lib.hid hH
  have HL := Lib.hid hL
  clear hm hax hRM hBL hBF hown hH hL
  go_enter Try.func19, Try.ntmps19
  go_wp2_with fail
  go_region
  have S2 := own3_take S1.out.1 (by rw [List.length_set]; exact HL.out) hmle
  rw [← HBF.out] at S2
  have OW := Lib.hid (World.ownsRow.drew S2)
  have GW := Lib.hid (grownBy_trans S1.out.2 (grownBy_of (Grows.refl _).dr))
  have hb1 := (GW.out.block hb (Array.getElem?_eq_some_iff.1 H.out).1 (fun h => hgb (Option.some.inj h))).trans H.out
  clear S1 S2 c0 fb x1 x2 x3 y1 y2 y3 f1 f2 f3
  generalize hX : World.setCell _ _ _ = wx at OW GW hb1 ⊢
  have H1 := Lib.hid hb1
  have c1 : wx.drew.cell? ⟨hb, 0, none⟩ = some (.slice (some ⟨g, 0, none⟩) n cap) := by rw [show wx.drew.cell? ⟨hb, 0, none⟩ = World.cell? wx.drew _ from rfl]; simp [World.cell?, hb1]
  have f1 : wx.drew.frozen? ⟨hb, 0, none⟩ = false := by simp [World.frozen?, hb1]
  have HY : Hid ((wx.drew.setCell ⟨hb, 0, none⟩ (.slice (some ⟨g, 0, none⟩) m cap)).heap[hb]? = some (.cells #[.slice (some ⟨g, 0, none⟩) m cap] 27 (0, 0))) := Lib.hid (by
    show (World.setCell wx.drew ⟨hb, 0, none⟩ _).heap[hb]? = _
    simp [World.setCell, Array.getElem?_modify, hb1])
  have HO : ∀ k, k ≠ hb → (wx.drew.setCell ⟨hb, 0, none⟩ (.slice (some ⟨g, 0, none⟩) m cap)).heap[k]? = wx.drew.heap[k]? := fun k hk => heap_setCell_other wx.drew ⟨hb, 0, none⟩ k _ (fun e => hk e)
  have OY : Hid ((wx.drew.setCell ⟨hb, 0, none⟩ (.slice (some ⟨g, 0, none⟩) m cap)).ownsRow B 30 3 (.slice (some ⟨g, 0, none⟩) m cap) m (flat3 (baseF L p))) := Lib.hid (by
    obtain ⟨ha, ⟨h1, _⟩ | ⟨g', cap', cur, hv, hbb, hh, rest⟩⟩ := OW.out
    · cases h1
    · cases hv
      exact ⟨ha, .inr ⟨_, _, cur, rfl, hbb, (HO g hgb').trans hh, rest⟩⟩)
  have KY : Hid (Keep2 w (wx.drew.setCell ⟨hb, 0, none⟩ (.slice (some ⟨g, 0, none⟩) m cap)) hb (some g)) := Lib.hid ⟨GW.out.os, GW.out.tape, GW.out.output, by have := GW.out.size; simpa [World.setCell] using this, fun k hk h1 h2 => by rw [HO k h1]; exact GW.out.block k hk (fun e => h2 e.symm)⟩
  clear hb1 hX HO
  by_cases hpm : p < m
  · go_wp2_with fail
    refine (rise_any (baseF L p) B hb g m cap p _ HBL.out hpm (by omega) hgb HY.out OY.out).mono ?_
    generalize World.setCell wx.drew ⟨hb, 0, none⟩ (.slice (some ⟨g, 0, none⟩) m cap) = wy at HY OY KY ⊢
    rintro _ w2 ⟨rfl, ho, hgr⟩
    have HO := Lib.hid ho
    have HG := Lib.hid hgr
    have H2 : Hid (w2.heap[hb]? = some (.cells #[.slice (some ⟨g, 0, none⟩) m cap] 27 (0, 0))) := Lib.hid ((hgr.block hb (Array.getElem?_eq_some_iff.1 HY.out).1 (fun h => hgb (Option.some.inj h))).trans HY.out)
    clear ho hgr OW GW H1 c1 f1
    go_wp2_with fail
    refine (sink_any (riseF (baseF L p) p) B hb g m cap p _ (by rw [riseF_len]; exact HBL.out) hpm (by omega) hgb H2.out HO.out).mono ?_
    rintro _ w3 ⟨rfl, ho, hgr⟩
    have HO3 := Lib.hid ho
    have HG3 := Lib.hid hgr
    clear ho hgr
    go_wp2
    go_end0
    rw [HRM.out, if_pos hpm]
    refine ⟨rfl, (HG3.out.block hb (Array.getElem?_eq_some_iff.1 H2.out).1 (fun h => hgb (Option.some.inj h))).trans H2.out, HO3.out, ?_⟩
    refine ⟨HG3.out.os.trans (HG.out.os.trans KY.out.os), HG3.out.tape.trans (HG.out.tape.trans KY.out.tape), HG3.out.output.trans (HG.out.output.trans KY.out.output), Nat.le_trans KY.out.size (Nat.le_trans HG.out.size HG3.out.size), fun k hk h1 h2 => ?_⟩
    rw [HG3.out.block k (Nat.lt_of_lt_of_le hk (Nat.le_trans KY.out.size HG.out.size)) (fun e => h2 e.symm), HG.out.block k (Nat.lt_of_lt_of_le hk KY.out.size) (fun e => h2 e.symm), KY.out.block k hk h1 h2]
  · go_wp2
    go_end0
    rw [HRM.out, if_neg hpm]
    exact ⟨rfl, HY.out, OY.out, KY.out⟩

theorem removeF_len (L : List Ent3) (p : Nat) : (removeF L p).length = L.length - 1 := by
  unfold removeF
  split
  · rw [sinkF_len, riseF_len, baseF_len]
  · exact baseF_len L p
theorem remove_heap {w : World} {hb B : Nat} {v : Value} {L : List Ent3} (h : HeapAt w hb B v L) (p : Nat) (hp : p < L.length) (hn : L.length ≤ 1000000) :
    Calls Try.prog 19 #[.pointer (some ⟨hb, 0, none⟩), iv p] w (HPost (.tuple #[]) (removeF L p) w hb B v) := by
  obtain ⟨hblk, hown, hne, hbase⟩ := h
  obtain ⟨g, cap, rfl⟩ : ∃ g cap, v = .slice (some ⟨g, 0, none⟩) L.length cap := by
    obtain ⟨_, ⟨_, h1⟩ | ⟨g', cap', cur, rfl, _⟩⟩ := hown
    · omega
    · exact ⟨g', cap', rfl⟩
  refine (remove_any L B hb g L.length cap p w rfl hp hn (fun e => hne (by rw [e]; rfl)) hblk hown).mono ?_
  rintro _ w' ⟨rfl, h1, h2, h3⟩
  refine ⟨rfl, _, ⟨h1, ?_, hne, Nat.le_trans hbase h3.size⟩, h3, .inl rfl⟩
  rw [removeF_len]
  exact h2
end Go.Proofs.Ytcmlcoedgfehgaa
