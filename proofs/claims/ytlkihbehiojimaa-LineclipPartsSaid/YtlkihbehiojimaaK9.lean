/-
  Layer 22: the parts of any row; the chapter's example.
-/
import Derived.Test.YtlkihbehiojimaaK8
namespace Go.Proofs.Ytlkihbehiojimaa
open Go.RowKit Go.Tab Go.WideShapes

set_option maxHeartbeats 4000000 in
theorem parts_none (a : Option Addr) (c : Nat) (b : BoxI) (w : World) (hu : PtsAt w (.slice a 0 c) []) :
    Calls Try.prog 14 #[.slice a 0 c, bx b] w (RetParts b [] w) := by
  have HCL := Lib.hid (clone_any _ [] _ (hu.grows ((Grows.refl w).al (.cells #[.int .i64 b.lx, .int .i64 b.ly, .int .i64 b.hx, .int .i64 b.hy] 26))) (by simp))
  clear hu
  go_enter Try.func14, Try.ntmps14
  go_wp2
  refine wp_scope_two 0 1 (fun _ _ => False) (fun _ _ => False) (fun _ _ => 0) (fun _ _ => 0) rfl rfl (fun _ _ h => h.elim) (fun _ _ h => h.elim) ?_
  intro hbody
  clear hbody
  go_wp2_with fail
  refine HCL.out.mono ?_
  rintro _ w1 ⟨v, rfl, hown, hg⟩
  obtain ⟨a', c', rfl⟩ : ∃ a' c', v = .slice a' 0 c' := by
    obtain ⟨_, ⟨rfl, _⟩ | ⟨g', cap', cur, rfl, _⟩⟩ := hown
    · exact ⟨_, _, rfl⟩
    · exact ⟨_, _, rfl⟩
  have HG := Lib.hid hg
  clear hown hg
  go_wp2
  go_step3
  refine (‹∀ (a : Act) (w : World), Code.wp _ _ _ a w → _›) _ _ ?_
  go_wp2
  go_ret
  refine ⟨_, 0, 0, rfl, ?_, .inl rfl, ((Grows.refl w).al _).trans HG.out⟩
  rw [show partsI (shS b []) ([] : List (Int × Int)).length 0 = [] from partsI_end _ _ (by simp)]
  exact World.ownsRow_nil _ _ _ _

theorem parts_any (u : Value) (l : List (Int × Int)) (b : BoxI) (w : World) (hu : PtsAt w u l) (hn : l.length ≤ 1000) : Calls Try.prog 14 #[u, bx b] w (RetParts b l w) := by
  obtain ⟨a, c, rfl, hnc, hac⟩ := hu.shape
  by_cases h : 0 < l.length
  · exact parts_some a _ c l b w hu rfl hn h
  · have hl : l = [] := List.eq_nil_of_length_eq_zero (by omega)
    subst hl
    exact parts_none a c b w hu

def knL : List (Int × Int) := [(0, 0), (2, 0), (4, 2), (9, 2), (4, 4), (2, 4)]
def knB : BoxI := ⟨0, 0, 5, 5⟩
theorem kn_parts : partsI (shS knB knL) 6 0 = [(1, 2), (4, 5)] := by
  have s0 : shS knB knL 0 = false := by kernel_rfl
  have s1 : shS knB knL 1 = true := by kernel_rfl
  have s2 : shS knB knL 2 = false := by kernel_rfl
  have s3 : shS knB knL 3 = false := by kernel_rfl
  have s4 : shS knB knL 4 = true := by kernel_rfl
  have r0 : runEnd (shS knB knL) 6 0 = 0 := runEnd_no _ _ (by rw [s0]; simp)
  have r2 : runEnd (shS knB knL) 6 2 = 2 := runEnd_no _ _ (by rw [s2]; simp)
  have r1 : runEnd (shS knB knL) 6 1 = 2 := (runEnd_yes _ _ (by omega) s1).trans r2
  have r3 : runEnd (shS knB knL) 6 3 = 3 := runEnd_no _ _ (by rw [s3]; simp)
  have r5 : runEnd (shS knB knL) 6 5 = 5 := runEnd_no _ _ (by simp)
  have r4 : runEnd (shS knB knL) 6 4 = 5 := (runEnd_yes _ _ (by omega) s4).trans r5
  have p6 : partsI (shS knB knL) 6 6 = [] := partsI_end _ _ (by omega)
  have p4 : partsI (shS knB knL) 6 4 = [(4, 5)] := by rw [partsI_step _ _ (by omega), r4]; simp [p6]
  have p3 : partsI (shS knB knL) 6 3 = [(4, 5)] := by rw [partsI_step _ _ (by omega), r3]; simp [p4]
  have p1 : partsI (shS knB knL) 6 1 = [(1, 2), (4, 5)] := by rw [partsI_step _ _ (by omega), r1]; simp [p3]
  rw [partsI_step _ _ (by omega), r0]; simp [p1]

set_option maxRecDepth 100000 in
set_option maxHeartbeats 4000000 in
theorem kn_any (w : World) : Calls Try.prog 12 #[] w (Ret (.bool true) w) := by
  go_enter Try.func12, Try.ntmps12
  go_wp2_with fail
  have HP := pts_block (l := knL) (heap_new w (.cells #[.int .i64 0, .int .i64 0, .int .i64 2, .int .i64 0, .int .i64 4, .int .i64 2, .int .i64 9, .int .i64 2, .int .i64 4, .int .i64 4, .int .i64 2, .int .i64 4] 24) _ rfl) rfl (by decide)
  refine (parts_any _ knL knB _ HP (by decide)).mono ?_
  rintro _ w1 ⟨v, g, cp, rfl, hown, hpt, hg⟩
  rw [show knL.length = 6 from rfl, kn_parts] at hown
  have hpt := hpt.resolve_left (by decide)
  rw [show knL.length = 6 from rfl] at hpt
  have k1 := hpt.at_cell (i := 1) (by decide)
  have k5 := hpt.at_cell (i := 5) (by decide)
  rw [show knL.getD 1 (0, 0) = (2, 0) from rfl] at k1
  rw [show knL.getD 5 (0, 0) = (2, 4) from rfl] at k5
  obtain ⟨x1, x2⟩ := k1
  obtain ⟨x3, x4⟩ := k5
  simp only [Nat.zero_add, Nat.reduceMul, Nat.reduceAdd] at x1 x2 x3 x4
  obtain ⟨g2, cap, rfl, y1, y2⟩ : ∃ g2 cap, v = .slice (some ⟨g2, 0, none⟩) 2 cap ∧ w1.cell? ⟨g2, 0, none⟩ = some (.slice (some ⟨g, 2, none⟩) 2 2) ∧ w1.cell? ⟨g2, 1, none⟩ = some (.slice (some ⟨g, 8, none⟩) 2 2) := by
    obtain ⟨_, ⟨_, h0⟩ | ⟨g2, cap, cur, rfl, hb, hh, h1, h2, h3, h4⟩⟩ := hown
    · cases h0
    · have e0 : cur.toList[0]? = some (rowV g (1, 2)) := by have := congrArg (fun l => l[0]?) h4; simpa [List.getElem?_take] using this
      have e1 : cur.toList[1]? = some (rowV g (4, 5)) := by have := congrArg (fun l => l[1]?) h4; simpa [List.getElem?_take] using this
      refine ⟨g2, cap, rfl, ?_, ?_⟩
      · simp only [World.cell?, hh]; rw [← Array.getElem?_toList]; exact e0
      · simp only [World.cell?, hh]; rw [← Array.getElem?_toList]; exact e1
  have HG := Lib.hid hg
  clear hown hpt hg HP
  go_wp2
  go_ret
  exact ⟨rfl, ((Grows.refl w).al _).trans HG.out⟩
end Go.Proofs.Ytlkihbehiojimaa
