/-
  Layer 9: the chapter's examples.
-/
import Derived.Test.YtcmgkmkpkklloaaDoorT20
namespace Go.Proofs.YtcmgkmkpkklloaaDoor
open Go.RowKit Go.Tab Go.WideShapes

theorem right_ascii (s : ByteArray) (h : ∀ i, i < s.size → B s i < 128) : rightT s = true := by
  have key : ∀ n i, s.size - i ≤ n → (runesW s i).isSome = true := by
    intro n
    induction n with
    | zero => intro i hn; rw [runesW_end (by omega)]; rfl
    | succ n ih =>
      intro i hn
      by_cases hi : i < s.size
      · have hf := first_ascii hi (h i hi)
        rw [runesW_step hi (by rw [hf]; exact Nat.one_ne_zero), hf, Option.isSome_map]
        exact ih _ (by dsimp only; omega)
      · rw [runesW_end hi]; rfl
  exact key s.size 0 (by omega)
def exA : ByteArray := ⟨#[97, 34, 98, 10]⟩
def exB : ByteArray := ⟨#[102, 97, 99, 101, 32, 34, 120, 32, 121, 34, 32, 51]⟩
def exC : ByteArray := ⟨#[97, 32, 32, 98]⟩
theorem ascii_all (s : ByteArray) (h : ((List.range s.size).all fun i => decide (B s i < 128)) = true) : ∀ i, i < s.size → B s i < 128 := by
  intro i hi
  have := List.all_eq_true.1 h i (List.mem_range.2 hi)
  simpa using this
theorem exA_is : quoteV exA = .tuple #[.string ⟨#[34, 97, 92, 34, 98, 92, 110, 34]⟩, .int .i64 0] := by
  unfold quoteV
  rw [right_ascii exA (ascii_all exA (by kernel_rfl)), if_pos rfl]
  have : bytes (quoteL exA.data.toList) = ⟨#[34, 97, 92, 34, 98, 92, 110, 34]⟩ := by kernel_rfl
  rw [this]
theorem plain_word (s : ByteArray) (h1 : decide (0 < s.size ∧ B s 0 = 34) = false) (h2 : decide (headB s = 0 ∨ 34 ∈ s.data.toList.take (headB s)) = false) (h3 : ((List.range (s.extract 0 (headB s)).size).all fun i => decide (B (s.extract 0 (headB s)) i < 128)) = true) :
    firstW s = ((s.data.toList.take (headB s), false), headB s, 0) := by
  unfold firstW
  rw [if_neg (of_decide_eq_false h1), if_neg (of_decide_eq_false h2), right_ascii _ (ascii_all _ h3), if_neg (by decide)]
theorem left0 (s : ByteArray) (h : ¬ s.size = 0) : WLeft s 0 [] (wordsT s) := ⟨s.size, Nat.le_refl _, by unfold wordsT; rw [if_neg h]⟩
theorem exB_is : wordsT exB = ([([102, 97, 99, 101], false), ([120, 32, 121], true), ([51], false)], 0, 0) := by
  have h0 := left0 exB (by decide)
  have f1 : firstW (exB.extract 0 exB.size) = (([102, 97, 99, 101], false), 4, 0) := by
    rw [plain_word _ (by kernel_rfl) (by kernel_rfl) (by kernel_rfl)]; kernel_rfl
  have f2 : firstW (exB.extract 5 exB.size) = (([120, 32, 121], true), 5, 0) := by kernel_rfl
  have f3 : firstW (exB.extract 11 exB.size) = (([51], false), 1, 0) := by
    rw [plain_word _ (by kernel_rfl) (by kernel_rfl) (by kernel_rfl)]; kernel_rfl
  have k1 := (wdGo_step h0).2.1
  rw [f1] at k1
  have h1 : WLeft exB 5 [([102, 97, 99, 101], false)] (wordsT exB) := k1 rfl (by decide)
  have k2 := (wdGo_step h1).2.1
  rw [f2] at k2
  have h2 : WLeft exB 11 [([102, 97, 99, 101], false), ([120, 32, 121], true)] (wordsT exB) := k2 rfl (by decide)
  have k3 := (wdGo_step h2).2.2
  rw [f3] at k3
  exact k3 rfl (by decide)
theorem exC_is : wordsT exC = ([], 2, 3) := by
  have h0 := left0 exC (by decide)
  have f1 : firstW (exC.extract 0 exC.size) = (([97], false), 1, 0) := by
    rw [plain_word _ (by kernel_rfl) (by kernel_rfl) (by kernel_rfl)]; kernel_rfl
  have f2 : firstW (exC.extract 2 exC.size) = (([], false), 0, 3) := by kernel_rfl
  have k1 := (wdGo_step h0).2.1
  rw [f1] at k1
  have h1 : WLeft exC 2 [([97], false)] (wordsT exC) := k1 rfl (by decide)
  have k2 := (wdGo_step h1).1
  rw [f2] at k2
  exact k2 (by decide)

theorem cellsB {w : World} {v : Value} (h : WordsAt w v [([102, 97, 99, 101], false), ([120, 32, 121], true), ([51], false)]) : ∃ b o c, v = .slice (some ⟨b, o, none⟩) 3 c ∧
    w.cell? ⟨b, o + 2, none⟩ = some (.string ⟨#[120, 32, 121]⟩) ∧ w.cell? ⟨b, o + 3, none⟩ = some (.bool true) ∧ w.cell? ⟨b, o + 4, none⟩ = some (.string ⟨#[51]⟩) ∧ w.cell? ⟨b, o + 5, none⟩ = some (.bool false) := by
  obtain ⟨a, c, hv, hc⟩ := h
  obtain ⟨b, o, ha, -, h1, h2⟩ := hc 1 (by decide)
  obtain ⟨b', o', ha', -, h3, h4⟩ := hc 2 (by decide)
  rw [ha] at ha'
  simp only [Option.some.injEq, Addr.mk.injEq, and_true] at ha'
  obtain ⟨rfl, rfl⟩ := ha'
  exact ⟨b, o, c, by rw [hv, ha]; rfl, h1, h2, h3, h4⟩

set_option maxRecDepth 100000 in
set_option maxHeartbeats 4000000 in
theorem known9_any (w : World) (hT : Tabs w) : Calls Tryd.prog 10 #[] w (Ret (.bool true) w) := by
  have HT := Lib.hid hT
  have HA := Lib.hid (quote_any exA w (by decide) hT)
  have HB := Lib.hid (fun w' hT => words_any exB w' (by decide) hT)
  have HC := Lib.hid (fun w' hT => words_any exC w' (by decide) hT)
  unfold WPost at HB HC
  rw [exA_is] at HA
  rw [exB_is] at HB
  rw [exC_is] at HC
  clear hT
  go_enter Tryd.func10, Tryd.ntmps10
  go_wp2_with fail
  refine HA.out.mono ?_
  rintro _ w1 ⟨rfl, hg⟩
  have HG1 := Lib.hid hg
  clear hg HA
  go_wp2_with fail
  refine (HB.out _ (HT.out.grows HG1.out)).mono ?_
  rintro _ w2 ⟨v2, rfl, hw, hg⟩
  have HG2 := Lib.hid (HG1.out.trans hg)
  have HW2 := Lib.hid hw
  clear hg hw HG1 HB
  go_wp2_with fail
  refine (HC.out _ (HT.out.grows HG2.out)).mono ?_
  rintro _ w3 ⟨v3, rfl, -, hg⟩
  have HG3 := Lib.hid (HG2.out.trans hg)
  obtain ⟨b, o, c, rfl, c1, c2, c3, c4⟩ := cellsB (HW2.out.grows hg)
  clear hg HG2 HC HW2 HT
  go_wp2
  all_goals
    go_ret
    exact ⟨rfl, HG3.out⟩
end Go.Proofs.YtcmgkmkpkklloaaDoor
