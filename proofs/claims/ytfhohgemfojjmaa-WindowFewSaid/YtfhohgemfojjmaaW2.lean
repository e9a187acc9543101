/-
  Layer 20: which are tiles; their windows, places, order, parents.
-/
import Derived.Test.YtfhohgemfojjmaaW1
namespace Go.Proofs.Ytfhohgemfojjmaa
open Go.RowKit Go.Tab Go.WideShapes

set_option maxHeartbeats 1000000 in
theorem wright_any (z x y : Int) (w : World) : Calls Try.prog 10 #[tl z x y] w (Ret (.bool (tileB z x y)) w) := by
  have HW := Lib.hid (wide_any z)
  have HB : Hid (∀ t, t = tileB z x y → Calls Try.prog 10 #[tl z x y] w (Ret (.bool t) w) → Calls Try.prog 10 #[tl z x y] w (Ret (.bool (tileB z x y)) w)) := Lib.hid (fun t h k => h ▸ k)
  unfold tileB at HB ⊢
  generalize wideN z = n at HW HB ⊢
  by_cases h1 : 0 ≤ x
  · by_cases h2 : x < (n : Int)
    · by_cases h3 : 0 ≤ y
      · by_cases h4 : y < (n : Int)
        · refine HB.out true (by simp [*]) ?_
          clear HB
          go_enter Try.func10, Try.ntmps10
          go_wp2
          go_quiet ((go_at_call 32; exact QRet.quiet (HW.out _)))
          go_wp2
          go_ret
          exact ⟨rfl, ((Grows.refl w).al _).trans (Grows.drewN _ _)⟩
        · refine HB.out false (by simp [*]) ?_
          have d4 : decide (y < (n : Int)) = false := by simpa using h4
          clear HB
          go_enter Try.func10, Try.ntmps10
          go_wp2
          go_quiet ((go_at_call 32; exact QRet.quiet (HW.out _)))
          go_wp2
          go_ret
          exact ⟨rfl, ((Grows.refl w).al _).trans (Grows.drewN _ _)⟩
      · refine HB.out false (by simp [*]) ?_
        have d3 : decide (0 ≤ y) = false := by simpa using h3
        clear HB
        go_enter Try.func10, Try.ntmps10
        go_wp2
        go_quiet ((go_at_call 32; exact QRet.quiet (HW.out _)))
        go_wp2
        go_ret
        exact ⟨rfl, ((Grows.refl w).al _).trans (Grows.drewN _ _)⟩
    · refine HB.out false (by simp [*]) ?_
      have d2 : decide (x < (n : Int)) = false := by simpa using h2
      clear HB
      go_enter Try.func10, Try.ntmps10
      go_wp2
      go_quiet ((go_at_call 32; exact QRet.quiet (HW.out _)))
      go_wp2
      go_ret
      exact ⟨rfl, ((Grows.refl w).al _).trans (Grows.drewN _ _)⟩
  · refine HB.out false (by simp [*]) ?_
    have d1 : decide (0 ≤ x) = false := by simpa using h1
    clear HB
    go_enter Try.func10, Try.ntmps10
    go_wp2
    go_quiet ((go_at_call 32; exact QRet.quiet (HW.out _)))
    go_wp2
    go_ret
    exact ⟨rfl, ((Grows.refl w).al _).trans (Grows.drewN _ _)⟩

set_option maxHeartbeats 1000000 in
theorem rtright_yes (z x y : Int) (w : World) (hl : levelB z = true) : Calls Try.prog 11 #[tl z x y] w (Ret (.bool (tileB z x y)) w) := by
  have HW := Lib.hid (fun w => rpower_any z.toNat (by simp [levelB] at hl; omega) w)
  have hz : ((z.toNat : Nat) : Int) = z := by simp [levelB] at hl; omega
  rw [hz] at HW
  have HL := Lib.hid (rlevel_any z)
  rw [hl] at HL
  clear hz hl
  have HB : Hid (∀ t, t = tileB z x y → Calls Try.prog 11 #[tl z x y] w (Ret (.bool t) w) → Calls Try.prog 11 #[tl z x y] w (Ret (.bool (tileB z x y)) w)) := Lib.hid (fun t h k => h ▸ k)
  unfold tileB at HB ⊢
  generalize wideN z = n at HW HB ⊢
  by_cases h1 : 0 ≤ x
  · by_cases h2 : x < (n : Int)
    · by_cases h3 : 0 ≤ y
      · by_cases h4 : y < (n : Int)
        · refine HB.out true (by simp [*]) ?_
          clear HB
          go_enter Try.func11, Try.ntmps11
          go_wp2
          go_quiet ((first | (go_at_call 33; exact QRet.quiet (HL.out _)) | (go_at_call 34; exact QRet.quiet (HW.out _))))
          go_wp2
          go_ret
          exact ⟨rfl, ((Grows.refl w).al _).trans (Grows.drewN _ _)⟩
        · refine HB.out false (by simp [*]) ?_
          have d4 : decide (y < (n : Int)) = false := by simpa using h4
          clear HB
          go_enter Try.func11, Try.ntmps11
          go_wp2
          go_quiet ((first | (go_at_call 33; exact QRet.quiet (HL.out _)) | (go_at_call 34; exact QRet.quiet (HW.out _))))
          go_wp2
          go_ret
          exact ⟨rfl, ((Grows.refl w).al _).trans (Grows.drewN _ _)⟩
      · refine HB.out false (by simp [*]) ?_
        have d3 : decide (0 ≤ y) = false := by simpa using h3
        clear HB
        go_enter Try.func11, Try.ntmps11
        go_wp2
        go_quiet ((first | (go_at_call 33; exact QRet.quiet (HL.out _)) | (go_at_call 34; exact QRet.quiet (HW.out _))))
        go_wp2
        go_ret
        exact ⟨rfl, ((Grows.refl w).al _).trans (Grows.drewN _ _)⟩
    · refine HB.out false (by simp [*]) ?_
      have d2 : decide (x < (n : Int)) = false := by simpa using h2
      clear HB
      go_enter Try.func11, Try.ntmps11
      go_wp2
      go_quiet ((first | (go_at_call 33; exact QRet.quiet (HL.out _)) | (go_at_call 34; exact QRet.quiet (HW.out _))))
      go_wp2
      go_ret
      exact ⟨rfl, ((Grows.refl w).al _).trans (Grows.drewN _ _)⟩
  · refine HB.out false (by simp [*]) ?_
    have d1 : decide (0 ≤ x) = false := by simpa using h1
    clear HB
    go_enter Try.func11, Try.ntmps11
    go_wp2
    go_quiet ((first | (go_at_call 33; exact QRet.quiet (HL.out _)) | (go_at_call 34; exact QRet.quiet (HW.out _))))
    go_wp2
    go_ret
    exact ⟨rfl, ((Grows.refl w).al _).trans (Grows.drewN _ _)⟩

theorem tileB_no {z x y : Int} (h : levelB z = false) : tileB z x y = false := by
  rcases wide_cases z with rfl | rfl | rfl | rfl | rfl | ⟨_, h2⟩
  iterate 5 (cases h)
  unfold tileB
  rw [h2]
  by_cases h1 : 0 ≤ x
  · have : ¬ x < ((0 : Nat) : Int) := by omega
    simp [this]
  · simp [h1]
set_option maxHeartbeats 1000000 in
theorem rtright_any (z x y : Int) (w : World) : Calls Try.prog 11 #[tl z x y] w (Ret (.bool (tileB z x y)) w) := by
  cases hl : levelB z with
  | true => exact rtright_yes z x y w hl
  | false =>
    rw [tileB_no hl]
    have HL := Lib.hid (rlevel_any z)
    rw [hl] at HL
    clear hl
    go_enter Try.func11, Try.ntmps11
    go_wp2
    go_quiet ((go_at_call 33; exact QRet.quiet (HL.out _)))
    go_wp2
    go_ret
    exact ⟨rfl, ((Grows.refl w).al _).trans (Grows.drewN _ _)⟩

end Go.Proofs.Ytfhohgemfojjmaa
