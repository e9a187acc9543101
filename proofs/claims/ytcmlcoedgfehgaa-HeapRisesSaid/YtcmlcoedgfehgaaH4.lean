/-
  Layer 5: an entry added.
-/
import Derived.Test.YtcmlcoedgfehgaaH3
import Derived.Tactics
import Derived.Tactics2
import Derived.WalkSpells
import Derived.StillTactics
import Derived.OwnWalk
import Derived.Laws.Pointers
import Derived.Deep.RegionLaw
import Derived.Deep.AppendLies
namespace Go.Proofs.Ytcmlcoedgfehgaa
open Go.RowKit Go.Tab Go.WideShapes

theorem infoE : (Try.prog.info? 30).map (fun i => (i.zero, i.size, i.bytes)) = some (some (.agg #[.int .i64 0, .int .i64 0, .int .i64 0]), 3, 24) := by kernel_rfl

/-- Nothing turns but the heap's own block and its row's. -/
structure Keep2 (w w' : World) (hb : Nat) (r : Option Nat) : Prop where
  os : w'.os = w.os
  tape : w'.tape = w.tape
  output : w'.output = w.output
  size : w.heap.size ≤ w'.heap.size
  block : ∀ k, k < w.heap.size → k ≠ hb → r ≠ some k → w'.heap[k]? = w.heap[k]?
def AddPost (L : List Ent3) (B hb n : Nat) (v : Value) (e : Ent3) (w : World) (r : Ending) (w' : World) : Prop :=
  r = .returned (.tuple #[]) ∧ ∃ (g cap : Nat), w'.heap[hb]? = some (.cells #[.slice (some ⟨g, 0, none⟩) (n + 1) cap] 27 (0, 0)) ∧
    w'.ownsRow B 30 3 (.slice (some ⟨g, 0, none⟩) (n + 1) cap) (n + 1) (flat3 (riseF (L ++ [e]) n)) ∧ ¬ hb = g ∧ g < w'.heap.size ∧ (v.ownBlock = some g ∨ w.heap.size ≤ g) ∧ Keep2 w w' hb v.ownBlock

set_option maxRecDepth 100000 in
set_option maxHeartbeats 4000000 in
theorem add_any (L : List Ent3) (B hb n : Nat) (v : Value) (x y z : Int) (w : World) (hL : L.length = n) (hn : n ≤ 1000) (hB : B ≤ w.heap.size)
    (hH : w.heap[hb]? = some (.cells #[v] 27 (0, 0))) (hown : w.ownsRow B 30 3 v n (flat3 L)) (hne : v.ownBlock ≠ some hb) (hlt : v.ownBlock ≠ some w.heap.size) :
    Calls Try.prog 21 #[.pointer (some ⟨hb, 0, none⟩), .agg #[.int .i64 x, .int .i64 y, .int .i64 z]] w (AddPost L B hb n v (x, y, z) w) := by
  obtain ⟨i0, hi0, hz0, hz1, hz2⟩ := info_parts infoE
  have hbl : hb < w.heap.size := (Array.getElem?_eq_some_iff.1 hH).1
  have hb1 := (Grows.alloc w (.cells #[.int .i64 x, .int .i64 y, .int .i64 z] 30)).block hH
  have c0 : (w.alloc (.cells #[.int .i64 x, .int .i64 y, .int .i64 z] 30)).cell? ⟨hb, 0, none⟩ = some v := by simp [World.cell?, hb1]
  have f0 : (w.alloc (.cells #[.int .i64 x, .int .i64 y, .int .i64 z] 30)).frozen? ⟨hb, 0, none⟩ = false := by simp [World.frozen?, hb1]
  obtain ⟨k0, k1, k2, _, _, _⟩ := cells3 (heap_new w (.cells #[.int .i64 x, .int .i64 y, .int .i64 z] 30) _ rfl)
  have hb2 := (Grows.alloc (w.alloc (.cells #[.int .i64 x, .int .i64 y, .int .i64 z] 30)) (.cells #[.int .i64 x, .int .i64 y, .int .i64 z] 30)).block hb1
  have fA : ((w.alloc (.cells #[.int .i64 x, .int .i64 y, .int .i64 z] 30)).alloc (.cells #[.int .i64 x, .int .i64 y, .int .i64 z] 30)).drew.frozen? ⟨hb, 0, none⟩ = false := by
    show World.frozen? ((w.alloc (.cells #[.int .i64 x, .int .i64 y, .int .i64 z] 30)).alloc (.cells #[.int .i64 x, .int .i64 y, .int .i64 z] 30)) _ = false
    simp [World.frozen?, hb2]
  have cA : ((w.alloc (.cells #[.int .i64 x, .int .i64 y, .int .i64 z] 30)).alloc (.cells #[.int .i64 x, .int .i64 y, .int .i64 z] 30)).drew.cell? ⟨hb, 0, none⟩ = some v := by
    show World.cell? ((w.alloc (.cells #[.int .i64 x, .int .i64 y, .int .i64 z] 30)).alloc (.cells #[.int .i64 x, .int .i64 y, .int .i64 z] 30)) _ = some v
    simp [World.cell?, hb2]
  have hnew : ((w.alloc (.cells #[.int .i64 x, .int .i64 y, .int .i64 z] 30)).alloc (.cells #[.int .i64 x, .int .i64 y, .int .i64 z] 30)).drew.heap[w.heap.size + 1]? = some (.cells #[.int .i64 x, .int .i64 y, .int .i64 z] 30 (0, 0)) :=
    heap_new (w.alloc (.cells #[.int .i64 x, .int .i64 y, .int .i64 z] 30)) _ _ (by simp only [World.size_alloc])
  have hbA : ((w.alloc (.cells #[.int .i64 x, .int .i64 y, .int .i64 z] 30)).alloc (.cells #[.int .i64 x, .int .i64 y, .int .i64 z] 30)).drew.heap[hb]? = some (.cells #[v] 27 (0, 0)) := hb2
  clear hH hb1 hb2
  go_enter Try.func21, Try.ntmps21
  go_wp2_with fail
  have hTrue : True := trivial
  go_region_law ((refine step_append_lies _ (by rfl) _ _ _ (by rfl) B 30 i0 _ 3 24 Try.underlying23 hi0 hz0 hz1 hz2 rfl (by omega) v n (flat3 L) (by rfl) (((hown.alloc _).alloc _).drew) ⟨w.heap.size + 1, 0, none⟩ 1 1 [.int .i64 x, .int .i64 y, .int .i64 z] (by rfl) (by rfl) (World.news_of_block (cs := #[.int .i64 x, .int .i64 y, .int .i64 z]) (t := 30) (fr := (0, 0)) hnew) (by simp [Value.oneCell']) (by omega) (by unfold maxLen; omega) (by omega) (by simp; omega) (w.heap.size + 1 + 1) (by simp) ?_; intro gg cap w1 hown1 hgrow hat hlt1; have cW := (hgrow.cell_far (a := ⟨hb, 0, none⟩) (by simp; omega) (Ne.symm hne)).trans cA; have fW := (hgrow.frozen_far (a := ⟨hb, 0, none⟩) (by simp; omega) (Ne.symm hne)).trans fA))
  all_goals
    clear cW fW k0 k1 k2 c0 f0 hTrue hi0 hz0 hz1 hz2
    have hgb : ¬ hb = gg := by
      rcases hat with h | h
      · intro he; subst he; exact hne h
      · omega
    have hgs : v.ownBlock = some gg ∨ w.heap.size ≤ gg := by
      rcases hat with h | h
      · exact .inl h
      · exact .inr (by omega)
    have h1b : w1.heap[hb]? = some (.cells #[v] 27 (0, 0)) := (hgrow.block hb (by simp; omega) (Ne.symm hne)).trans hbA
    have HX : (w1.setCell ⟨hb, 0, none⟩ (.slice (some ⟨gg, 0, none⟩) (n + 1) cap)).heap[hb]? = some (.cells #[.slice (some ⟨gg, 0, none⟩) (n + 1) cap] 27 (0, 0)) := by
      simp [World.setCell, Array.getElem?_modify, h1b]
    have KX : Keep2 w (w1.setCell ⟨hb, 0, none⟩ (.slice (some ⟨gg, 0, none⟩) (n + 1) cap)) hb v.ownBlock := by
      refine ⟨hgrow.os, hgrow.tape, hgrow.output, ?_, fun k hk h1 h2 => ?_⟩
      · have := hgrow.size
        simp only [World.size_alloc, World.drew] at this
        simp [World.setCell]; omega
      · have e1 : (w1.setCell ⟨hb, 0, none⟩ (.slice (some ⟨gg, 0, none⟩) (n + 1) cap)).heap[k]? = w1.heap[k]? := heap_setCell_other w1 ⟨hb, 0, none⟩ k _ (fun e => h1 e)
        rw [e1, hgrow.block k (by simp; omega) (fun e => h2 e.symm)]
        exact Below.block (((Grows.refl w).al _).al _) k hk
    have OX : (w1.setCell ⟨hb, 0, none⟩ (.slice (some ⟨gg, 0, none⟩) (n + 1) cap)).ownsRow B 30 3 (.slice (some ⟨gg, 0, none⟩) (n + 1) cap) (n + 1) (flat3 (L ++ [(x, y, z)])) := by
      rw [flat3_append]
      obtain ⟨ha, ⟨hb', _⟩ | ⟨g', cap', cur, hv, hbb, hh, rest⟩⟩ := hown1
      · cases hb'
      · cases hv
        exact ⟨ha, .inr ⟨_, _, cur, rfl, hbb, (heap_setCell_other w1 ⟨hb, 0, none⟩ gg _ (fun e => hgb e.symm)).trans hh, rest⟩⟩
    have SX : gg < (w1.setCell ⟨hb, 0, none⟩ (.slice (some ⟨gg, 0, none⟩) (n + 1) cap)).heap.size := by simp [World.setCell]; exact hlt1
    generalize w1.setCell ⟨hb, 0, none⟩ (.slice (some ⟨gg, 0, none⟩) (n + 1) cap) = wx at HX KX OX SX ⊢
    have cx : wx.cell? ⟨hb, 0, none⟩ = some (.slice (some ⟨gg, 0, none⟩) (n + 1) cap) := by simp [World.cell?, HX]
    have HKX := Lib.hid KX
    have HOX := Lib.hid OX
    have HHX := Lib.hid HX
    clear KX OX HX hgrow hown1 h1b hbA cA fA hnew hown hat hlt hlt1 hbl
    go_wp2_with fail
    refine (rise_any (L ++ [(x, y, z)]) B hb gg (n + 1) cap n wx (by rw [List.length_append, hL]; rfl) (by omega) (by omega) hgb HHX.out HOX.out).mono ?_
    rintro _ w2 ⟨rfl, ho, hgr⟩
    have HO := Lib.hid ho
    have HG := Lib.hid hgr
    clear ho hgr
    go_wp2
    go_end0
    refine ⟨rfl, gg, cap, ?_, HO.out, hgb, Nat.lt_of_lt_of_le SX HG.out.size, hgs, ?_⟩
    · rw [← HHX.out]
      exact HG.out.block hb (Array.getElem?_eq_some_iff.1 HHX.out).1 (fun h => hgb (Option.some.inj h))
    · refine ⟨HG.out.os.trans HKX.out.os, HG.out.tape.trans HKX.out.tape, HG.out.output.trans HKX.out.output, Nat.le_trans HKX.out.size HG.out.size, fun k hk h1 h2 => ?_⟩
      rw [HG.out.block k (Nat.lt_of_lt_of_le hk HKX.out.size) (fun h => ?_), HKX.out.block k hk h1 h2]
      have hkg : k = gg := Option.some.inj h
      subst hkg
      rcases hgs with h3 | h3
      · exact h2 h3
      · omega
end Go.Proofs.Ytcmlcoedgfehgaa
