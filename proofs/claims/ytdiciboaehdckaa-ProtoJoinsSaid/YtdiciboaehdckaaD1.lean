/-
  Layer 8: small functions: kinds, widths, what may be told.
-/
import Derived.Test.YtdiciboaehdckaaV16
import Derived.Test.YtdiciboaehdckaaRB
namespace Go.Proofs.Ytdiciboaehdckaa
open Go.RowKit Go.Tab

def kindB (k : Int) : Bool := decide (k = 0 ∨ k = 1 ∨ k = 2 ∨ k = 5)
def chkI (num kind n len : Int) : Int :=
  if num < 1 ∨ 536870911 < num then 5 else if ¬ (kind = 0 ∨ kind = 1 ∨ kind = 2 ∨ kind = 5) then 14 else if (kind ≠ 2 ∧ 0 < len) ∨ (kind = 2 ∧ 0 < n) then 3 else if kind = 5 ∧ 4294967295 < n then 5 else 0
theorem cells4f {w : World} {b : Nat} {x y z u : Value} {T : TypeId} (h : w.heap[b]? = some (.cells #[x, y, z, u] T (0, 0))) :
    w.cell? ⟨b, 0, none⟩ = some x ∧ w.cell? ⟨b, 1, none⟩ = some y ∧ w.cell? ⟨b, 2, none⟩ = some z ∧ w.cell? ⟨b, 3, none⟩ = some u := by
  refine ⟨?_, ?_, ?_, ?_⟩ <;> simp [World.cell?, h]
theorem box4f {w w' : World} {x y z u : Value} {T : TypeId} (h : Grows (w.alloc (.cells #[x, y, z, u] T)) w') :
    w'.cell? ⟨w.heap.size, 0, none⟩ = some x ∧ w'.cell? ⟨w.heap.size, 1, none⟩ = some y ∧ w'.cell? ⟨w.heap.size, 2, none⟩ = some z ∧ w'.cell? ⟨w.heap.size, 3, none⟩ = some u := cells4f (h.block (heap_new _ _ _ rfl))
theorem frozz {w : World} {b : Nat} {cs : Array Value} {T : TypeId} (h : w.heap[b]? = some (.cells cs T (0, 0))) (o : Nat) : w.frozen? ⟨b, o, none⟩ = false := by
  simp [World.frozen?, h]
theorem set4 {w : World} {b : Nat} {T : TypeId} {t0 t1 t2 t3 s0 s1 s2 s3 : Value} (h : w.heap[b]? = some (.cells #[t0, t1, t2, t3] T (0, 0))) :
    ((((w.setCell ⟨b, 0, none⟩ s0).setCell ⟨b, 1, none⟩ s1).setCell ⟨b, 2, none⟩ s2).setCell ⟨b, 3, none⟩ s3).heap[b]? = some (.cells #[s0, s1, s2, s3] T (0, 0)) := by
  simp [World.setCell, Array.getElem?_modify, h]
theorem set4o {w : World} {b k : Nat} {s0 s1 s2 s3 : Value} (h : k ≠ b) :
    ((((w.setCell ⟨b, 0, none⟩ s0).setCell ⟨b, 1, none⟩ s1).setCell ⟨b, 2, none⟩ s2).setCell ⟨b, 3, none⟩ s3).heap[k]? = w.heap[k]? := by
  simp [World.setCell, Array.getElem?_modify, Ne.symm h]

theorem kind_any (k : Int) (w : World) : Calls Try.prog 34 #[.int .i64 k] w (Ret (.bool (kindB k)) w) := by
  have H : Hid (kindB k = (k == 0 || k == 1 || k == 2 || k == 5)) := Lib.hid (by
    unfold kindB
    by_cases h0 : k = 0 <;> by_cases h1 : k = 1 <;> by_cases h2 : k = 2 <;> by_cases h5 : k = 5 <;> simp [h0, h1, h2, h5] <;> omega)
  go_enter Try.func34, Try.ntmps34
  go_wp2
  all_goals
    go_ret
    first
      | exact ⟨ret_bool H.out.symm, Grows.refl _⟩
      | exact ⟨ret_bool (by rw [H.out]; simp [*]), Grows.refl _⟩
theorem width_any (k : Int) (w : World) : Calls Try.prog 25 #[.int .i64 k] w (Ret (.int .i64 (if k = 1 then 8 else 4)) w) := by
  by_cases h : k = 1
  · subst h
    go_enter Try.func25, Try.ntmps25
    go_wp2
    go_ret
    exact ⟨rfl, Grows.refl _⟩
  · have hb : (k == 1) = false := by simpa using h
    rw [show (if k = 1 then (8 : Int) else 4) = 4 from if_neg h]
    have HN := Lib.hid h
    clear h
    go_enter Try.func25, Try.ntmps25
    go_wp2
    all_goals
      go_ret
      first
        | exact ⟨rfl, Grows.refl _⟩
        | (exfalso; simp_all)
set_option maxHeartbeats 2000000 in
theorem check_any (num kind n : Int) (a : Option Addr) (len cap : Nat) (w : World) : Calls Try.prog 22 #[.agg #[.int .i64 num, .int .i64 kind, .int .u64 n, .slice a len cap]] w (Ret (.int .i64 (chkI num kind n len)) w) := by
  have HK := Lib.hid (kind_any kind)
  have HC : Hid (∀ c : Int, c = chkI num kind n len → (Ret (.int .i64 (chkI num kind n len)) w) = (Ret (.int .i64 c) w)) := Lib.hid (fun c h => by rw [h])
  by_cases h1 : num < 1 ∨ 536870911 < num
  · rw [HC.out 5 (by unfold chkI; rw [if_pos h1])]
    clear HC
    rcases h1 with h1 | h1
    · go_enter Try.func22, Try.ntmps22
      go_wp2
      go_ret
      exact ⟨rfl, (Grows.refl w).al _⟩
    · have h0 : ¬ num < 1 := by omega
      go_enter Try.func22, Try.ntmps22
      go_wp2
      go_ret
      exact ⟨rfl, (Grows.refl w).al _⟩
  · have h10 : ¬ num < 1 := by omega
    have h11 : ¬ 536870911 < num := by omega
    by_cases h2 : kind = 0 ∨ kind = 1 ∨ kind = 2 ∨ kind = 5
    · have hkt : kindB kind = true := by simpa [kindB] using h2
      rw [hkt] at HK
      have b2 : (kind == 2) = decide (kind = 2) := by rw [Bool.eq_iff_iff]; simp
      have b5 : (kind == 5) = decide (kind = 5) := by rw [Bool.eq_iff_iff]; simp
      have c2 : (kind != 2) = !decide (kind = 2) := by rw [Bool.eq_iff_iff]; simp
      by_cases h3 : (kind ≠ 2 ∧ 0 < (len : Int)) ∨ (kind = 2 ∧ 0 < n)
      · rw [HC.out 3 (by unfold chkI; rw [if_neg h1, if_neg (not_not_intro h2), if_pos h3])]
        clear HC h1 h2 hkt
        rcases h3 with ⟨h3, h4⟩ | ⟨h3, h4⟩
        all_goals
          simp only [h3, decide_true, decide_false, Bool.not_true, Bool.not_false] at b2 c2
          have hl := Lib.hid h3
          clear h3
          go_enter Try.func22, Try.ntmps22
          go_wp2_with fail
          refine (HK.out _).mono ?_
          rintro _ w1 ⟨rfl, hg⟩
          obtain ⟨e0, e1, e2, e3⟩ := box4f hg
          have G := Lib.hid (((Grows.refl w).al _).trans hg)
          clear hg
          go_wp2
          go_ret
          exact ⟨rfl, G.out⟩
      · by_cases h4 : kind = 5 ∧ 4294967295 < n
        · rw [HC.out 5 (by unfold chkI; rw [if_neg h1, if_neg (not_not_intro h2), if_neg h3, if_pos h4])]
          have h5 : ¬ 0 < (len : Int) := by omega
          obtain ⟨h6, h7⟩ := h4
          subst h6
          clear HC h1 h2 hkt b2 b5 c2 h3
          go_enter Try.func22, Try.ntmps22
          go_wp2_with fail
          refine (HK.out _).mono ?_
          rintro _ w1 ⟨rfl, hg⟩
          obtain ⟨e0, e1, e2, e3⟩ := box4f hg
          have G := Lib.hid (((Grows.refl w).al _).trans hg)
          clear hg
          go_wp2
          go_ret
          exact ⟨rfl, G.out⟩
        · rw [HC.out 0 (by unfold chkI; rw [if_neg h1, if_neg (not_not_intro h2), if_neg h3, if_neg h4])]
          have h5 : kind = 2 ∧ ¬ 0 < n ∨ kind = 5 ∧ ¬ 0 < (len : Int) ∧ ¬ 4294967295 < n ∨ (kind ≠ 2 ∧ kind ≠ 5 ∧ ¬ 0 < (len : Int)) := by omega
          clear HC h1 h2 hkt h3 h4
          rcases h5 with ⟨h5, h6⟩ | ⟨h5, h6, h7⟩ | ⟨h5, h6, h7⟩
          · subst h5
            clear b2 b5 c2
            go_enter Try.func22, Try.ntmps22
            go_wp2_with fail
            refine (HK.out _).mono ?_
            rintro _ w1 ⟨rfl, hg⟩
            obtain ⟨e0, e1, e2, e3⟩ := box4f hg
            have G := Lib.hid (((Grows.refl w).al _).trans hg)
            clear hg
            go_wp2
            go_ret
            exact ⟨rfl, G.out⟩
          · subst h5
            clear b2 b5 c2
            go_enter Try.func22, Try.ntmps22
            go_wp2_with fail
            refine (HK.out _).mono ?_
            rintro _ w1 ⟨rfl, hg⟩
            obtain ⟨e0, e1, e2, e3⟩ := box4f hg
            have G := Lib.hid (((Grows.refl w).al _).trans hg)
            clear hg
            go_wp2
            go_ret
            exact ⟨rfl, G.out⟩
          · simp only [h5, h6, decide_false, Bool.not_false] at b2 b5 c2
            clear h5 h6
            go_enter Try.func22, Try.ntmps22
            go_wp2_with fail
            refine (HK.out _).mono ?_
            rintro _ w1 ⟨rfl, hg⟩
            obtain ⟨e0, e1, e2, e3⟩ := box4f hg
            have G := Lib.hid (((Grows.refl w).al _).trans hg)
            clear hg
            go_wp2
            go_ret
            exact ⟨rfl, G.out⟩
    · rw [HC.out 14 (by unfold chkI; rw [if_neg h1, if_pos h2])]
      have hkt : kindB kind = false := by simpa [kindB] using h2
      rw [hkt] at HK
      clear HC h1 h2 hkt
      go_enter Try.func22, Try.ntmps22
      go_wp2_with fail
      refine (HK.out _).mono ?_
      rintro _ w1 ⟨rfl, hg⟩
      have G := Lib.hid (((Grows.refl w).al _).trans hg)
      clear hg
      go_wp2
      go_ret
      exact ⟨rfl, G.out⟩
end Go.Proofs.Ytdiciboaehdckaa
