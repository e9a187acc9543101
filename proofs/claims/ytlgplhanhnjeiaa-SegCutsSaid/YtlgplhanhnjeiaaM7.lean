/-
  Layer 2: the library's stable sort of at most 40 cuts.
-/
import Derived.Test.YtlgplhanhnjeiaaM6
namespace Go.Proofs.Ytlgplhanhnjeiaa
open Go.RowKit Go.Tab Go.Sort

theorem sym_all (g N cap B : Nat) (hm : N ≤ 1000000) : ∀ (n a m b : Nat) (d : Array CutB) (w : World), b - a ≤ n → a < m → m < b → b ≤ N → w.ownsRow B 61 4 (.slice (some ⟨g, 0, none⟩) N cap) N (rowB d) → d.size = N → SrtB a m d → SrtB m b d → SymC g N cap a m b B d w := by
  intro n
  induction n with
  | zero => intro a m b d w h1 h2 h3; omega
  | succ n ih =>
    intro a m b d w h1 ham hmb hb h hN S1 S2
    by_cases e1 : m = a + 1
    · exact symA g N cap a m b B d w h hN hm e1 hmb hb S2
    · by_cases e2 : b = m + 1
      · exact symB g N cap a m b B d w h hN hm (by omega) e2 hb S1
      · exact symG g N cap a m b B d w h hN hm (by omega) (by omega) hb S1 S2 (fun a' m' b' d' w' h1' h2' h3' h4' h5' h6' h7' h8' => ih a' m' b' d' w' (by omega) h2' h3' h4' h5' h6' h7' h8')

/-- A part of the row is put in order. -/
def InsC (g N cap a b B : Nat) (d : Array CutB) (w : World) : Prop :=
  Calls Try.prog 44 #[.slice (some ⟨g, 0, none⟩) N cap, .int .i64 a, .int .i64 b, fnC] w fun e w' => e = .returned (.tuple #[]) ∧ ∃ d', (PermIn a b d d' ∧ SrtB a b d') ∧ w'.ownsRow B 61 4 (.slice (some ⟨g, 0, none⟩) N cap) N (rowB d') ∧ w.grownBy w' (some g)
theorem cmpLaysB (blk off size : Nat) (w : World) : CmpLays Try.prog 31 #[] encB 4 cmpB blk off size w :=
  fun _ _ _ _ x y => by rw [← cmpB_eq]; exact closure_any x.1 y.1 _
theorem insB (g N cap a b B : Nat) (d : Array CutB) (w : World) (h : w.ownsRow B 61 4 (.slice (some ⟨g, 0, none⟩) N cap) N (rowB d)) (hN : d.size = N) (hm : N ≤ 1000000) (hab : a ≤ b) (hb : b ≤ N) : InsC g N cap a b B d w := by
  have eg : ∀ args w, (callFunc 31 args).run Try.prog w = .ok (.enter 31 args) w := enters_of Try.func31 (by kernel_rfl) rfl
  obtain ⟨hH, -, hg⟩ := holdsK_own encB_len (by omega) h hN
  have hs : (Sort.insertionSort ltB d a b).size = N := by rw [size_insertion]; exact hN
  have hc := AnyQ.insertionSortCmpFunc insLay 4 Try.isAgg61 Try.sizeOf61 encB encB_len encB_one cmpB 31 #[] g 0 cap a b d w eg (cmpLaysB _ _ _ _) hH hg hab (by omega) (by omega)
  rw [hN] at hc
  refine hc.mono ?_
  rintro e w' ⟨rfl, n, os, rfl⟩
  obtain ⟨h1, h2⟩ := own_sortWorldK encB_len (by omega) h (Sort.insertionSort ltB d a b) hs n os
  exact ⟨rfl, _, insertionSort_holds swoB d a b hab (by omega), h1, h2⟩

def StaC (g N cap B : Nat) (d : Array CutB) (w : World) : Prop :=
  Calls Try.prog 42 #[.slice (some ⟨g, 0, none⟩) N cap, .int .i64 N, fnC] w fun e w' => e = .returned (.tuple #[]) ∧ ∃ d', (PermIn 0 N d d' ∧ SrtB 0 N d') ∧ w'.ownsRow B 61 4 (.slice (some ⟨g, 0, none⟩) N cap) N (rowB d') ∧ w.grownBy w' (some g)

set_option maxRecDepth 100000 in
set_option maxHeartbeats 2000000 in
theorem sta_small (g N cap B : Nat) (d : Array CutB) (w : World) (h : w.ownsRow B 61 4 (.slice (some ⟨g, 0, none⟩) N cap) N (rowB d)) (hN : d.size = N) (hm : N < 20) : StaC g N cap B d w := by
  have HI := Lib.hid (insB g N cap 0 N B d w h hN (by omega) (Nat.zero_le _) (Nat.le_refl _))
  unfold StaC
  unfold InsC at HI
  clear h hN
  have h20 : ¬ (20 : Int) ≤ (N : Int) := by omega
  have h21 : ¬ (20 : Int) < (N : Int) := by omega
  go_enter Try.func42, Try.ntmps42
  go_wp2_with fail
  refine wp_loop_rounds 1 ?_
  rw [rounds_succ]
  go_wp2_with fail
  refine HI.out.mono ?_
  rintro _ w1 ⟨rfl, d1, hPS, hO, hg⟩
  have HO := Lib.hid hO
  clear hO HI
  go_wp2_with fail
  refine wp_loop_rounds 1 ?_
  rw [rounds_succ]
  go_wp2
  go_end0
  exact ⟨rfl, d1, hPS, HO.out, hg⟩

set_option maxRecDepth 100000 in
set_option maxHeartbeats 4000000 in
theorem sta_20 (g N cap B : Nat) (d : Array CutB) (w : World) (h : w.ownsRow B 61 4 (.slice (some ⟨g, 0, none⟩) N cap) N (rowB d)) (hN : d.size = N) (h20 : N = 20) : StaC g N cap B d w := by
  have HN := Lib.hid hN
  have HI := Lib.hid (fun a b d' w' (h' : w'.ownsRow B 61 4 (.slice (some ⟨g, 0, none⟩) N cap) N (rowB d')) (hN' : d'.size = N) (h1 : a ≤ b) (h2 : b ≤ N) => insB g N cap a b B d' w' h' hN' (by omega) h1 h2)
  have HY := Lib.hid (fun b d' w' (h' : w'.ownsRow B 61 4 (.slice (some ⟨g, 0, none⟩) N cap) N (rowB d')) (hN' : d'.size = N) (h1 : 20 < b) (h2 : b ≤ N) s1 s2 => sym_all g N cap B (by omega) b 0 20 b d' w' (by omega) (by omega) h1 h2 h' hN' s1 s2)
  unfold StaC
  unfold InsC at HI
  unfold SymC at HY
  have HO0 := Lib.hid h
  clear h hN
  subst h20
  go_enter Try.func42, Try.ntmps42
  go_wp2_with fail
  refine wp_loop_rounds 2 ?_
  rw [rounds_succ]
  have HC1 := Lib.hid (HI.out 0 20 d w HO0.out HN.out (by omega) (by omega))
  go_wp2_with fail
  refine HC1.out.mono ?_
  rintro _ w1 ⟨rfl, d1, ⟨hP1, hS1⟩, hO1, hg1⟩
  have P1 := Lib.hid hP1
  have S1 := Lib.hid hS1
  have HO1 := Lib.hid hO1
  have HG1 := Lib.hid hg1
  have HN1 := Lib.hid (hP1.1.trans HN.out)
  clear hP1 hS1 hO1 hg1 HC1
  go_wp2_with fail
  rw [rounds_succ]
  have HC2 := Lib.hid (HI.out 20 20 d1 w1 HO1.out HN1.out (by omega) (by omega))
  go_wp2_with fail
  refine HC2.out.mono ?_
  rintro _ w2 ⟨rfl, d2, ⟨hP2, hS2⟩, hO2, hg2⟩
  have P2 := Lib.hid hP2
  have S2 := Lib.hid hS2
  have HO2 := Lib.hid hO2
  have HG2 := Lib.hid hg2
  have HN2 := Lib.hid (hP2.1.trans HN1.out)
  clear hP2 hS2 hO2 hg2 HC2
  go_wp2_with fail
  refine wp_loop_rounds 1 ?_
  rw [rounds_succ]
  go_wp2
  go_end0
  refine ⟨rfl, d2, ⟨permIn_trans _ _ _ _ _ P1.out (permIn_mono _ _ 20 20 0 20 (by omega) (by omega) (by rw [HN1.out]; omega) P2.out), SrtB.congr S1.out (fun x h1 h2 => P2.out.2.1 x (.inl h2))⟩, HO2.out, grownBy_trans' HG1.out HG2.out⟩

set_option maxRecDepth 100000 in
set_option maxHeartbeats 4000000 in
theorem sta_mid (g N cap B : Nat) (d : Array CutB) (w : World) (h : w.ownsRow B 61 4 (.slice (some ⟨g, 0, none⟩) N cap) N (rowB d)) (hN : d.size = N) (h20 : 20 < N) (h40 : N < 40) : StaC g N cap B d w := by
  have HN := Lib.hid hN
  have HI := Lib.hid (fun a b d' w' (h' : w'.ownsRow B 61 4 (.slice (some ⟨g, 0, none⟩) N cap) N (rowB d')) (hN' : d'.size = N) (h1 : a ≤ b) (h2 : b ≤ N) => insB g N cap a b B d' w' h' hN' (by omega) h1 h2)
  have HY := Lib.hid (fun b d' w' (h' : w'.ownsRow B 61 4 (.slice (some ⟨g, 0, none⟩) N cap) N (rowB d')) (hN' : d'.size = N) (h1 : 20 < b) (h2 : b ≤ N) s1 s2 => sym_all g N cap B (by omega) b 0 20 b d' w' (by omega) (by omega) h1 h2 h' hN' s1 s2)
  unfold StaC
  unfold InsC at HI
  unfold SymC at HY
  have HO0 := Lib.hid h
  clear h hN
  have z1 : (20 : Int) ≤ (N : Int) := by omega
  have z2 : ¬ (40 : Int) ≤ (N : Int) := by omega
  have z3 : (20 : Int) < (N : Int) := by omega
  have z4 : ¬ (40 : Int) < (N : Int) := by omega
  go_enter Try.func42, Try.ntmps42
  go_wp2_with fail
  refine wp_loop_rounds 2 ?_
  rw [rounds_succ]
  have HC1 := Lib.hid (HI.out 0 20 d w HO0.out HN.out (by omega) (by omega))
  go_wp2_with fail
  refine HC1.out.mono ?_
  rintro _ w1 ⟨rfl, d1, ⟨hP1, hS1⟩, hO1, hg1⟩
  have P1 := Lib.hid hP1
  have S1 := Lib.hid hS1
  have HO1 := Lib.hid hO1
  have HG1 := Lib.hid hg1
  have HN1 := Lib.hid (hP1.1.trans HN.out)
  clear hP1 hS1 hO1 hg1 HC1
  go_wp2_with fail
  rw [rounds_succ]
  have HC2 := Lib.hid (HI.out 20 N d1 w1 HO1.out HN1.out (by omega) (by omega))
  go_wp2_with fail
  refine HC2.out.mono ?_
  rintro _ w2 ⟨rfl, d2, ⟨hP2, hS2⟩, hO2, hg2⟩
  have P2 := Lib.hid hP2
  have S2 := Lib.hid hS2
  have HO2 := Lib.hid hO2
  have HG2 := Lib.hid hg2
  have HN2 := Lib.hid (hP2.1.trans HN1.out)
  clear hP2 hS2 hO2 hg2 HC2
  have A1 := Lib.hid (SrtB.congr S1.out (fun x h1 h2 => P2.out.2.1 x (.inl h2)))
  have A2 := S2
  go_wp2_with fail
  refine wp_loop_rounds 2 ?_
  rw [rounds_succ]
  go_wp2_with fail
  refine wp_loop_rounds 1 ?_
  rw [rounds_succ]
  have HC3 := Lib.hid (HY.out N d2 w2 HO2.out HN2.out (by omega) (by omega) A1.out A2.out)
  go_wp2_with fail
  refine HC3.out.mono ?_
  rintro _ w3 ⟨rfl, d3, ⟨hP3, hS3⟩, hO3, hg3⟩
  have P3 := Lib.hid hP3
  have S3 := Lib.hid hS3
  have HO3 := Lib.hid hO3
  have HG3 := Lib.hid hg3
  clear hP3 hS3 hO3 hg3 HC3
  go_wp2_with fail
  rw [rounds_succ]
  go_wp2
  go_end0
  refine ⟨rfl, d3, ⟨permIn_trans _ _ _ _ _ (permIn_mono _ _ 0 20 0 N (by omega) (by omega) (by rw [HN.out]; omega) P1.out) (permIn_trans _ _ _ _ _ (permIn_mono _ _ 20 N 0 N (by omega) (by omega) (by rw [HN1.out]; omega) P2.out) P3.out), S3.out⟩, HO3.out, grownBy_trans' (grownBy_trans' HG1.out HG2.out) HG3.out⟩

set_option maxRecDepth 100000 in
set_option maxHeartbeats 4000000 in
theorem sta_40 (g N cap B : Nat) (d : Array CutB) (w : World) (h : w.ownsRow B 61 4 (.slice (some ⟨g, 0, none⟩) N cap) N (rowB d)) (hN : d.size = N) (h40 : N = 40) : StaC g N cap B d w := by
  have HN := Lib.hid hN
  have HI := Lib.hid (fun a b d' w' (h' : w'.ownsRow B 61 4 (.slice (some ⟨g, 0, none⟩) N cap) N (rowB d')) (hN' : d'.size = N) (h1 : a ≤ b) (h2 : b ≤ N) => insB g N cap a b B d' w' h' hN' (by omega) h1 h2)
  have HY := Lib.hid (fun b d' w' (h' : w'.ownsRow B 61 4 (.slice (some ⟨g, 0, none⟩) N cap) N (rowB d')) (hN' : d'.size = N) (h1 : 20 < b) (h2 : b ≤ N) s1 s2 => sym_all g N cap B (by omega) b 0 20 b d' w' (by omega) (by omega) h1 h2 h' hN' s1 s2)
  unfold StaC
  unfold InsC at HI
  unfold SymC at HY
  have HO0 := Lib.hid h
  clear h hN
  subst h40
  go_enter Try.func42, Try.ntmps42
  go_wp2_with fail
  refine wp_loop_rounds 3 ?_
  rw [rounds_succ]
  have HC1 := Lib.hid (HI.out 0 20 d w HO0.out HN.out (by omega) (by omega))
  go_wp2_with fail
  refine HC1.out.mono ?_
  rintro _ w1 ⟨rfl, d1, ⟨hP1, hS1⟩, hO1, hg1⟩
  have P1 := Lib.hid hP1
  have S1 := Lib.hid hS1
  have HO1 := Lib.hid hO1
  have HG1 := Lib.hid hg1
  have HN1 := Lib.hid (hP1.1.trans HN.out)
  clear hP1 hS1 hO1 hg1 HC1
  go_wp2_with fail
  rw [rounds_succ]
  have HC2 := Lib.hid (HI.out 20 40 d1 w1 HO1.out HN1.out (by omega) (by omega))
  go_wp2_with fail
  refine HC2.out.mono ?_
  rintro _ w2 ⟨rfl, d2, ⟨hP2, hS2⟩, hO2, hg2⟩
  have P2 := Lib.hid hP2
  have S2 := Lib.hid hS2
  have HO2 := Lib.hid hO2
  have HG2 := Lib.hid hg2
  have HN2 := Lib.hid (hP2.1.trans HN1.out)
  clear hP2 hS2 hO2 hg2 HC2
  go_wp2_with fail
  rw [rounds_succ]
  have HC3 := Lib.hid (HI.out 40 40 d2 w2 HO2.out HN2.out (by omega) (by omega))
  go_wp2_with fail
  refine HC3.out.mono ?_
  rintro _ w3 ⟨rfl, d3, ⟨hP3, hS3⟩, hO3, hg3⟩
  have P3 := Lib.hid hP3
  have S3 := Lib.hid hS3
  have HO3 := Lib.hid hO3
  have HG3 := Lib.hid hg3
  have HN3 := Lib.hid (hP3.1.trans HN2.out)
  clear hP3 hS3 hO3 hg3 HC3
  have A1 := Lib.hid (SrtB.congr S1.out (fun x h1 h2 => (P3.out.2.1 x (.inl (by omega))).trans (P2.out.2.1 x (.inl h2))))
  have A2 := Lib.hid (SrtB.congr S2.out (fun x h1 h2 => P3.out.2.1 x (.inl h2)))
  go_wp2_with fail
  refine wp_loop_rounds 2 ?_
  rw [rounds_succ]
  go_wp2_with fail
  refine wp_loop_rounds 2 ?_
  rw [rounds_succ]
  have HC4 := Lib.hid (HY.out 40 d3 w3 HO3.out HN3.out (by omega) (by omega) A1.out A2.out)
  go_wp2_with fail
  refine HC4.out.mono ?_
  rintro _ w4 ⟨rfl, d4, ⟨hP4, hS4⟩, hO4, hg4⟩
  have P4 := Lib.hid hP4
  have S4 := Lib.hid hS4
  have HO4 := Lib.hid hO4
  have HG4 := Lib.hid hg4
  clear hP4 hS4 hO4 hg4 HC4
  go_wp2_with fail
  rw [rounds_succ]
  go_wp2_with fail
  rw [rounds_succ]
  go_wp2
  go_end0
  refine ⟨rfl, d4, ⟨permIn_trans _ _ _ _ _ (permIn_mono _ _ 0 20 0 40 (by omega) (by omega) (by rw [HN.out]; omega) P1.out) (permIn_trans _ _ _ _ _ (permIn_mono _ _ 20 40 0 40 (by omega) (by omega) (by rw [HN1.out]; omega) P2.out) (permIn_trans _ _ _ _ _ (permIn_mono _ _ 40 40 0 40 (by omega) (by omega) (by rw [HN2.out]; omega) P3.out) P4.out)), S4.out⟩, HO4.out, grownBy_trans' (grownBy_trans' (grownBy_trans' HG1.out HG2.out) HG3.out) HG4.out⟩
end Go.Proofs.Ytlgplhanhnjeiaa
