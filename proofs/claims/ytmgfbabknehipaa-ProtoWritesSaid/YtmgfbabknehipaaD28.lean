/-
  Layer 8: may a field be told? The document's check.
-/
import Derived.Test.YtmgfbabknehipaaD14
import Derived.Test.YtmgfbabknehipaaD11
namespace Go.Proofs.Ytmgfbabknehipaa
open Go.RowKit Go.Tab

theorem strN_empty (bs : List Nat) : (strN bs).toList.isEmpty = decide (bs = []) := by
  rw [ByteArray.toList_eq]
  cases bs with
  | nil => rfl
  | cons b l => simp [strN]

set_option maxHeartbeats 4000000 in
theorem rcheck_any (f : Fld) (w : World) : Calls Try.prog 19 #[rfV f] w (Ret (.int .i64 (okF f)) w) := by
  obtain ⟨num, kind, fn, bs⟩ := f
  have HC : Hid (∀ c : Int, c = okF ⟨num, kind, fn, bs⟩ → (Ret (.int .i64 (okF ⟨num, kind, fn, bs⟩)) w) = (Ret (.int .i64 c) w)) := Lib.hid (fun c h => by rw [h])
  have HE := Lib.hid (strN_empty bs)
  have HL : Hid (0 < (bs.length : Int) ↔ ¬ bs = []) := Lib.hid (by cases bs <;> simp <;> omega)
  unfold rfV
  simp only
  by_cases h1 : num < 1 ∨ 536870911 < num
  · rw [HC.out 5 (by unfold okF chkI; rw [if_pos h1])]
    clear HC
    rcases h1 with h1 | h1
    · go_enter Try.func19, Try.ntmps19
      go_wp2
      go_ret
      exact ⟨rfl, (Grows.refl w).al _⟩
    · have h0 : ¬ num < 1 := by omega
      go_enter Try.func19, Try.ntmps19
      go_wp2
      go_ret
      exact ⟨rfl, (Grows.refl w).al _⟩
  · have h10 : ¬ num < 1 := by omega
    have h11 : ¬ 536870911 < num := by omega
    by_cases h2 : kind = 0 ∨ kind = 1 ∨ kind = 2 ∨ kind = 5
    · by_cases hbs : bs = []
      · have hl : ¬ 0 < (bs.length : Int) := fun h => HL.out.1 h hbs
        have hs : (strN bs).toList.isEmpty = true := by rw [HE.out]; simpa using hbs
        have HV := Lib.hid hl
        clear HL HE hl
        generalize strN bs = s at hs ⊢
        by_cases h3 : kind = 2 ∧ 0 < fn
        · rw [HC.out 3 (by unfold okF chkI; simp only; rw [if_neg h1, if_neg (not_not_intro h2), if_pos (.inr ⟨h3.1, by omega⟩)])]
          obtain ⟨rfl, h4⟩ := h3
          have bn : ((fn : Int) != 0) = true := by rw [bne_iff_ne]; omega
          clear HC h1 h2 h4 hbs
          go_enter Try.func19, Try.ntmps19
          go_wp2
          go_ret
          exact ⟨rfl, (Grows.refl w).al _⟩
        · by_cases h4 : kind = 5 ∧ 4294967295 < fn
          · rw [HC.out 5 (by unfold okF chkI; simp only; rw [if_neg h1, if_neg (not_not_intro h2), if_neg (by have := HV.out; omega), if_pos ⟨h4.1, by omega⟩])]
            obtain ⟨rfl, h5⟩ := h4
            have h6 : 4294967295 < (fn : Int) := by omega
            clear HC h1 h2 h3 h5 hbs
            go_enter Try.func19, Try.ntmps19
            go_wp2
            go_ret
            exact ⟨rfl, (Grows.refl w).al _⟩
          · rw [HC.out 0 (by unfold okF chkI; simp only; rw [if_neg h1, if_neg (not_not_intro h2), if_neg (by have := HV.out; omega), if_neg (by omega)])]
            clear HC h1
            rcases h2 with rfl | rfl | rfl | rfl
            · clear h3 h4 hbs
              go_enter Try.func19, Try.ntmps19
              go_wp2
              go_ret
              exact ⟨rfl, (Grows.refl w).al _⟩
            · clear h3 h4 hbs
              go_enter Try.func19, Try.ntmps19
              go_wp2
              go_ret
              exact ⟨rfl, (Grows.refl w).al _⟩
            · have h5 : fn = 0 := by omega
              subst h5
              clear h3 h4 hbs
              go_enter Try.func19, Try.ntmps19
              go_wp2
              go_ret
              exact ⟨rfl, (Grows.refl w).al _⟩
            · have h5 : ¬ 4294967295 < (fn : Int) := by omega
              clear h3 h4 hbs
              go_enter Try.func19, Try.ntmps19
              go_wp2
              go_ret
              exact ⟨rfl, (Grows.refl w).al _⟩
      · have hl : 0 < (bs.length : Int) := HL.out.2 hbs
        have hs : (strN bs).toList.isEmpty = false := by rw [HE.out]; simpa using hbs
        have HV := Lib.hid hl
        clear HL HE hl
        generalize strN bs = s at hs ⊢
        by_cases h3 : kind = 2
        · by_cases h4 : 0 < fn
          · rw [HC.out 3 (by unfold okF chkI; simp only; rw [if_neg h1, if_neg (not_not_intro h2), if_pos (.inr ⟨h3, by omega⟩)])]
            subst h3
            have bn : ((fn : Int) != 0) = true := by rw [bne_iff_ne]; omega
            clear HC h1 h2 h4 hbs
            go_enter Try.func19, Try.ntmps19
            go_wp2
            go_ret
            exact ⟨rfl, (Grows.refl w).al _⟩
          · rw [HC.out 0 (by unfold okF chkI; simp only; rw [if_neg h1, if_neg (not_not_intro h2), if_neg (by omega), if_neg (by omega)])]
            subst h3
            have h5 : fn = 0 := by omega
            subst h5
            clear HC h1 h2 h4 hbs
            go_enter Try.func19, Try.ntmps19
            go_wp2
            go_ret
            exact ⟨rfl, (Grows.refl w).al _⟩
        · rw [HC.out 3 (by unfold okF chkI; simp only; rw [if_neg h1, if_neg (not_not_intro h2), if_pos (.inl ⟨h3, HV.out⟩)])]
          have h4 : kind = 0 ∨ kind = 1 ∨ kind = 5 := by omega
          clear HC h1 h2 h3 hbs
          rcases h4 with rfl | rfl | rfl
          · go_enter Try.func19, Try.ntmps19
            go_wp2
            go_ret
            exact ⟨rfl, (Grows.refl w).al _⟩
          · go_enter Try.func19, Try.ntmps19
            go_wp2
            go_ret
            exact ⟨rfl, (Grows.refl w).al _⟩
          · go_enter Try.func19, Try.ntmps19
            go_wp2
            go_ret
            exact ⟨rfl, (Grows.refl w).al _⟩
    · rw [HC.out 14 (by unfold okF chkI; simp only; rw [if_neg h1, if_pos h2])]
      have b0 : (kind != 0) = true := by rw [bne_iff_ne]; omega
      have b1 : (kind != 1) = true := by rw [bne_iff_ne]; omega
      have b2 : (kind != 2) = true := by rw [bne_iff_ne]; omega
      have b5 : (kind != 5) = true := by rw [bne_iff_ne]; omega
      clear HC h1 h2
      go_enter Try.func19, Try.ntmps19
      go_wp2
      go_ret
      exact ⟨rfl, (Grows.refl w).al _⟩
end Go.Proofs.Ytmgfbabknehipaa
