/-
  Layer 9: the forms of runes that don't stand for themselves.
-/
import Derived.Test.YtcmgkmkpkklloaaDoorT11
namespace Go.Proofs.YtcmgkmkpkklloaaDoor
open Go.RowKit Go.Tab Go.WideShapes

/-- A digit to sixteen. -/
def hexD (k : Nat) : UInt8 := if k < 10 then (48 + k).toUInt8 else (87 + k).toUInt8
/-- A rune's form; none: it stands for itself. -/
def formL (r : Nat) : List UInt8 :=
  if r = 92 then [92, 92] else if r = 34 then [92, 34] else if r = 10 then [92, 110] else if r = 9 then [92, 116]
  else if r < 32 ∨ r = 127 then [92, 120, hexD (r / 16), hexD (r % 16)] else []
def bytes (l : List UInt8) : ByteArray := ⟨l.toArray⟩
def hexS : ByteArray := ⟨#[48, 49, 50, 51, 52, 53, 54, 55, 56, 57, 97, 98, 99, 100, 101, 102]⟩
theorem hex_two : ∀ a : Fin 16, ∀ b : Fin 16, (⟨#[92, 120]⟩ : ByteArray) ++ hexS.extract a.1 (a.1 + 1) ++ hexS.extract b.1 (b.1 + 1) = bytes [92, 120, hexD a.1, hexD b.1] := by decide

theorem i32_and15 (x : Int) (h0 : 0 ≤ x) (h1 : x < 2147483648) : bits .and .i32 x 15 = x % 16 := bits_mask .i32 31 (by decide) wraps_i32 4 (by decide) x h0 h1

set_option maxRecDepth 100000 in
set_option maxHeartbeats 4000000 in
theorem escaped_any (r : Nat) (w : World) (hr : r ≤ 1114111) : Calls Tryd.prog 26 #[.int .i32 (r : Int)] w (Ret (.tuple #[.string (bytes (formL r)), .bool (decide (formL r ≠ []))]) w) := by
  by_cases h1 : r = 92
  · subst h1
    go_enter Tryd.func26, Tryd.ntmps26
    go_wp2
    go_ret2
    exact ⟨rfl, Grows.refl _⟩
  by_cases h2 : r = 34
  · subst h2
    go_enter Tryd.func26, Tryd.ntmps26
    go_wp2
    go_ret2
    exact ⟨rfl, Grows.refl _⟩
  by_cases h3 : r = 10
  · subst h3
    go_enter Tryd.func26, Tryd.ntmps26
    go_wp2
    go_ret2
    exact ⟨rfl, Grows.refl _⟩
  by_cases h4 : r = 9
  · subst h4
    go_enter Tryd.func26, Tryd.ntmps26
    go_wp2
    go_ret2
    exact ⟨rfl, Grows.refl _⟩
  have z1 : ¬ (r : Int) = 92 := by omega
  have z2 : ¬ (r : Int) = 34 := by omega
  have z3 : ¬ (r : Int) = 10 := by omega
  have z4 : ¬ (r : Int) = 9 := by omega
  by_cases h5 : r < 32 ∨ r = 127
  · have HF : Hid (formL r = [92, 120, hexD (r / 16), hexD (r % 16)]) := Lib.hid (by unfold formL; rw [if_neg h1, if_neg h2, if_neg h3, if_neg h4, if_pos h5])
    obtain ⟨a, ha⟩ : ∃ a, a = r / 16 := ⟨_, rfl⟩
    obtain ⟨b, hb⟩ : ∃ b, b = r % 16 := ⟨_, rfl⟩
    have ha16 : a < 16 := by omega
    have hb16 : b < 16 := by omega
    have HX := Lib.hid (hex_two ⟨a, ha16⟩ ⟨b, hb16⟩)
    rw [HF.out, ← ha, ← hb]
    clear HF
    have e1 : (r : Int) / 16 = (a : Int) := by omega
    have e2 : bits .and .i32 (r : Int) 15 = (b : Int) := by
      rw [i32_and15 (r : Int) (by omega) (by omega)]; omega
    have e3 : IntKind.i32.wrap ((a : Int) + 1) = (a : Int) + 1 := wraps_i32 _ (by omega) (by omega)
    have e4 : IntKind.i32.wrap ((b : Int) + 1) = (b : Int) + 1 := wraps_i32 _ (by omega) (by omega)
    have hsl : ∀ (k : Nat) (hk : k < 16) (w' : World), (Instr.slice 9 (.string ⟨#[48, 49, 50, 51, 52, 53, 54, 55, 56, 57, 97, 98, 99, 100, 101, 102]⟩) (some (.int .i32 (k : Int))) (some (.int .i32 ((k : Int) + 1))) none).run Tryd.prog w' = .ok (.string (hexS.extract k (k + 1))) w' := fun k hk w' => by
      rw [run_slice_string w' 9 _ .i32 .i32 _ _ Tryd.underlying9 (by omega) (by omega) (by show (k : Int) + 1 ≤ 16; omega)]
      rw [show ((k : Int)).toNat = k by omega, show ((k : Int) + 1).toNat = k + 1 by omega]; rfl
    have hsa := hsl a ha16
    have hsb := hsl b hb16
    have HSL := Lib.hid hsl
    clear hsl
    have HR := Lib.hid h5
    clear h1 h2 h3 h4 h5
    by_cases h6 : (r : Int) < 32
    · clear ha hb
      go_enter Tryd.func26, Tryd.ntmps26
      go_wp2
      go_region
      all_goals
        go_wp2
        go_ret2
        exact ⟨by rw [← HX.out]; rfl, Below.drew (Grows.refl _)⟩
    · have h7 : (r : Int) = 127 := by have := HR.out; omega
      have h8 : r = 127 := by omega
      subst h8
      obtain rfl : a = 7 := ha
      obtain rfl : b = 15 := hb
      clear e1 e2 e3 e4 hsa hsb
      have e2 : bits .and .i32 127 15 = 15 := i32_and15 127 (by omega) (by omega)
      have e3 : IntKind.i32.wrap 8 = 8 := wraps_i32 _ (by omega) (by omega)
      have e4 : IntKind.i32.wrap 16 = 16 := wraps_i32 _ (by omega) (by omega)
      have hsa : ∀ (w' : World), (Instr.slice 9 (.string ⟨#[48, 49, 50, 51, 52, 53, 54, 55, 56, 57, 97, 98, 99, 100, 101, 102]⟩) (some (.int .i32 7)) (some (.int .i32 8)) none).run Tryd.prog w' = .ok (.string (hexS.extract 7 8)) w' := HSL.out 7 (by decide)
      have hsb : ∀ (w' : World), (Instr.slice 9 (.string ⟨#[48, 49, 50, 51, 52, 53, 54, 55, 56, 57, 97, 98, 99, 100, 101, 102]⟩) (some (.int .i32 15)) (some (.int .i32 16)) none).run Tryd.prog w' = .ok (.string (hexS.extract 15 16)) w' := HSL.out 15 (by decide)
      go_enter Tryd.func26, Tryd.ntmps26
      go_wp2
      go_region
      all_goals
        go_wp2
        go_ret2
        exact ⟨by rw [← HX.out]; rfl, Below.drew (Grows.refl _)⟩
  · have HF : formL r = [] := by unfold formL; rw [if_neg h1, if_neg h2, if_neg h3, if_neg h4, if_neg h5]
    rw [HF]
    have z5 : ¬ (r : Int) < 32 := by omega
    have z6 : ¬ (r : Int) = 127 := by omega
    clear h1 h2 h3 h4 h5 HF
    go_enter Tryd.func26, Tryd.ntmps26
    go_wp2
    go_ret2
    exact ⟨rfl, Grows.refl _⟩
end Go.Proofs.YtcmgkmkpkklloaaDoor
