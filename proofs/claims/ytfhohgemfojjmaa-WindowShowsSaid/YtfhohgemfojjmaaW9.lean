/-
  Layer 20: the document's tiles of a level.
-/
import Derived.Test.YtfhohgemfojjmaaW8
namespace Go.Proofs.Ytfhohgemfojjmaa
open Go.RowKit Go.Tab Go.WideShapes

theorem infoRT : (Try.prog.info? 35).map (fun i => (i.zero, i.size, i.bytes)) = some (some (.agg #[.int .i64 0, .int .i64 0, .int .i64 0]), 3, 24) := by kernel_rfl
theorem row3 (w : World) (x y z : Value) (T : TypeId) (hx : x.oneCell' = true) (hy : y.oneCell' = true) (hz : z.oneCell' = true) : RowAt 3 (w.alloc (.cells #[x, y, z] T)) (.slice (some ⟨w.heap.size, 0, none⟩) 1 1) 1 [x, y, z] := by
  obtain ⟨c0, c1, c2⟩ := cells3 (heap_new w (.cells #[x, y, z] T) _ rfl)
  refine ⟨rfl, by simp [hx, hy, hz], .inr ⟨w.heap.size, 0, 1, rfl, by simp, fun j u hj => ?_⟩⟩
  rw [Nat.zero_add]
  match j with
  | 0 => cases hj; exact c0
  | 1 => cases hj; exact c1
  | 2 => cases hj; exact c2
  | j + 3 => simp at hj
theorem tilesL_no {z : Int} (h : wideN z = 0) : tilesL z = [] := by simp [tilesL, tilesM, h]

set_option maxHeartbeats 4000000 in
theorem rall_any (z : Int) (w : World) : Calls Try.prog 17 #[.int .i64 z] w fun e W' => ∃ v, e = .returned v ∧ W'.ownsRow w.heap.size 35 3 v (tilesL z).length (flatT (tilesL z)) ∧ Grows w W' := by
  obtain ⟨i0, hi0, hz0, hz1, hz2⟩ := info_parts infoRT
  have HL := Lib.hid (rlevel_any z)
  cases hl : levelB z with
  | false =>
    rw [hl] at HL
    have h0 : wideN z = 0 := by
      rcases wide_cases z with rfl | rfl | rfl | rfl | rfl | ⟨_, h⟩
      iterate 5 (cases hl)
      exact h
    rw [tilesL_no h0]
    clear hl h0
    go_enter Try.func17, Try.ntmps17
    go_wp2_with fail
    refine (HL.out _).mono ?_
    rintro _ w1 ⟨rfl, rfl⟩
    go_wp2
    go_ret
    exact ⟨_, rfl, World.ownsRow_nil _ _ _ _, Grows.refl _⟩
  | true =>
    rw [hl] at HL
    obtain ⟨k, hk, hk4⟩ : ∃ k : Nat, z = (k : Int) ∧ k ≤ 4 := ⟨z.toNat, by simp [levelB] at hl; omega, by simp [levelB] at hl; omega⟩
    subst hk
    have HP := Lib.hid (fun w => rpower_any k hk4 w)
    have HN : Hid (tilesL (k : Int) = tilesM (k : Int) (wideN (k : Int)) (wideN (k : Int) * wideN (k : Int))) := Lib.hid rfl
    have hn16 := wide_le (k : Int)
    generalize tilesL (k : Int) = L at HN ⊢
    generalize wideN (k : Int) = n at HP HN hn16
    clear hl
    go_enter Try.func17, Try.ntmps17
    go_wp2_with fail
    refine (HL.out _).mono ?_
    rintro _ w1 ⟨rfl, rfl⟩
    go_wp2
    go_loopw [3, 4] (fun u' i wr => ∃ (a : Nat) (u : Value), u = u' ∧ i = .int .i64 (a : Int) ∧ a ≤ n ∧ wr.ownsRow w1.heap.size 35 3 u (a * n) (flatT (tilesM k n (a * n))) ∧ Grows w1 wr) (fun _ i _ => n - (intOf i).toNat)
    case atStart => exact ⟨0, _, rfl, rfl, Nat.zero_le _, by rw [Nat.zero_mul]; exact World.ownsRow_nil _ _ _ _, Grows.refl _⟩
    case round =>
      obtain ⟨a, u, rfl, rfl, ha, hown, hg⟩ := hrel
      have HOW := Lib.hid hown
      have G := Lib.hid hg
      clear hown hg
      by_cases hlt : a < n
      · go_wp2_with fail
        refine (HP.out _).mono ?_
        rintro _ w2 ⟨rfl, rfl⟩
        go_wp2
        obtain ⟨wo, hwo⟩ : ∃ wo : World, wo = w2 := ⟨_, rfl⟩
        rw [← hwo] at HOW G ⊢
        clear hwo
        go_loopw [3, 5] (fun u' i wr => ∃ (b : Nat) (u : Value), u = u' ∧ i = .int .i64 (b : Int) ∧ b ≤ n ∧ wr.ownsRow w1.heap.size 35 3 u (a * n + b) (flatT (tilesM k n (a * n + b))) ∧ Grows w1 wr) (fun _ i _ => n - (intOf i).toNat)
        case atStart => exact ⟨0, _, rfl, rfl, Nat.zero_le _, HOW.out, G.out⟩
        case round =>
          obtain ⟨b, u2, rfl, rfl, hb, hown, hg⟩ := hrel
          have HO2 := Lib.hid hown
          have G2 := Lib.hid hg
          clear hown hg
          by_cases hlb : b < n
          · have HT := Lib.hid (tk_at (k : Int) (a := a) hlb)
            have HS := Lib.hid (tilesM_succ (k : Int) n (a * n + b))
            rw [HT.out] at HS
            have hbd : a * n + b < n * n := at_lt hlt hlb
            have hnn : n * n ≤ 256 := Nat.mul_le_mul hn16 hn16
            have hb256 : a * n + b < 256 := by omega
            generalize hq : a * n + b = q at HS HT HO2 hb256
            have HQ := Lib.hid hq
            clear hbd hnn hq
            go_wp2_with fail
            refine (HP.out _).mono ?_
            rintro _ w3 ⟨rfl, rfl⟩
            go_wp2_with (at_builtin; go_loud (refine append_row rfl _ _ 45 rfl w1.heap.size 35 i0 _ 3 24 Try.underlying45 hi0 hz0 hz1 hz2 rfl (by decide) _ q _ rfl (ownsRow_later HO2.out ((Grows.refl _).al _)) 1 [.int .i64 (k : Int), .int .i64 (a : Int), .int .i64 (b : Int)] _ rfl (row3 _ _ _ _ _ rfl rfl rfl) (by unfold maxLen; omega) (by omega) (by have := G2.out.size; rw [World.size_alloc]; omega) ?_; intro v5 w5 hown5 hgr5; have O5 := Lib.hid hown5; have G5 := Lib.hid (hgr5 w1 (G2.out.al _) (Nat.le_refl _)); clear hown5 hgr5))
            exact ⟨⟨b + 1, _, rfl, by simp, by omega, by rw [← Nat.add_assoc, HQ.out, HS.out, flatT_snoc]; exact O5.out, G5.out⟩, by simp only [intOf]; omega⟩
          · obtain rfl : b = n := by omega
            go_wp2_with fail
            refine (HP.out _).mono ?_
            rintro _ w3 ⟨rfl, rfl⟩
            go_wp2
            exact ⟨⟨a + 1, _, rfl, by simp, by omega, by rw [succ_mul']; exact HO2.out, G2.out⟩, by simp only [intOf]; omega⟩
      · obtain rfl : a = n := by omega
        go_wp2_with fail
        refine (HP.out _).mono ?_
        rintro _ w2 ⟨rfl, rfl⟩
        go_wp2
        go_ret
        exact ⟨_, rfl, by rw [HN.out, tilesM_length]; exact HOW.out, G.out⟩
end Go.Proofs.Ytfhohgemfojjmaa
