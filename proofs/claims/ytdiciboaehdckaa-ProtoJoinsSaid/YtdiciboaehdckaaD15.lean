/-
  Layer 8: bytes.Equal, bytes.Clone.
-/
import Derived.Test.YtdiciboaehdckaaD13
import Derived.WalkSpells
namespace Go.Proofs.Ytdiciboaehdckaa
open Go.RowKit Go.Tab Go.WideShapes

theorem strN_inj {a b : List Nat} (ha : ∀ x ∈ a, x < 256) (hb : ∀ x ∈ b, x < 256) : strN a = strN b ↔ a = b := by
  constructor
  · intro h
    have h1 : a.map UInt8.ofNat = b.map UInt8.ofNat := by
      have := congrArg (fun s : ByteArray => s.data.toList) h
      simpa [strN] using this
    have h2 := congrArg (List.map UInt8.toNat) h1
    simp only [List.map_map] at h2
    have key : ∀ l : List Nat, (∀ x ∈ l, x < 256) → l.map (UInt8.toNat ∘ UInt8.ofNat) = l := fun l hl => by
      conv => rhs; rw [← List.map_id l]
      refine List.map_congr_left fun x hx => ?_
      simp only [Function.comp, id]
      exact UInt8.toNat_ofNat_of_lt (hl x hx)
    rw [key a ha, key b hb] at h2
    exact h2
  · rintro rfl; rfl
set_option maxHeartbeats 1000000 in
theorem equal_any (v u : Value) (a b : List Nat) (w : World) (hv : NumsAt .u8 w v a) (hu : NumsAt .u8 w u b) (ha : ∀ x ∈ a, x < 256) (hb : ∀ x ∈ b, x < 256) : Calls Try.prog 29 #[v, u] w (Ret (.bool (decide (a = b))) w) := by
  have c1 := conv_nums hv
  have c2 := conv_nums hu
  have HE := Lib.hid (strN_inj ha hb)
  obtain ⟨a1, k1, rfl⟩ := hv.shape
  obtain ⟨a2, k2, rfl⟩ := hu.shape
  clear hv hu ha hb
  generalize strN a = s at c1 HE
  generalize strN b = t at c2 HE
  have HD : Hid ((s.toList == t.toList) = decide (a = b)) := Lib.hid (by
    rw [Bool.eq_iff_iff, beq_iff_eq, decide_eq_true_eq, ← HE.out, ByteArray.toList_eq, ByteArray.toList_eq]
    exact ⟨bytes_inj, fun h => by rw [h]⟩)
  clear HE
  go_enter Try.func29, Try.ntmps29
  go_wp2
  go_ret
  exact ⟨ret_bool HD.out, Grows.refl _⟩
set_option maxHeartbeats 1000000 in
theorem bclone_any (v : Value) (l : List Nat) (w : World) (hv : NumsAt .u8 w v l) (hl : l.length ≤ 100000) : Calls Try.prog 33 #[v] w (fun e w' => ∃ u, e = .returned u ∧ w'.ownsRow w.heap.size 5 1 u l.length (l.map u8v) ∧ Grows w w') := by
  obtain ⟨i0, hi, hz0, hz1, hz2⟩ := info_parts info8
  have q22 : ∀ (w : World) (a : Option Addr) (n c n' c' : Nat), (binOp .eql 24 (.slice a n c) (.slice none n' c')).run Try.prog w = .ok (.bool a.isNone) w := fun w a n c n' c' => Lib.run_eql_slice_nil w _ _ a n c n' c' Try.underlying24
  have HV := Lib.hid hv
  obtain ⟨a, c, rfl⟩ := hv.shape
  have hnil : a = none → l = [] := by
    intro h
    subst h
    obtain ⟨_, ⟨_, h⟩ | ⟨b, off, cap, h, _⟩⟩ := hv
    · exact h
    · cases h
  clear hv
  cases a with
  | none =>
    have HNIL := Lib.hid (hnil rfl)
    clear hnil
    go_enter Try.func33, Try.ntmps33
    go_wp2
    go_ret
    exact ⟨.slice none 0 0, rfl, by rw [HNIL.out]; exact World.ownsRow_nil _ _ _ _, Grows.refl _⟩
  | some ad =>
    clear hnil
    have HG := Lib.hid (Grows.alloc w (.cells #[] 5))
    have HO := Lib.hid (own_empty (w := w) (T := 5) (s := 1) (by decide))
    have HR := Lib.hid (nums_row (HV.out.grows HG.out))
    go_enter Try.func33, Try.ntmps33
    go_wp2_with (at_builtin; go_loud (refine append_row2 rfl _ _ 24 rfl w.heap.size 5 i0 (.int .u8 0) 1 1 Try.underlying24 hi hz0 hz1 hz2 rfl (by decide) _ 0 [] rfl HO.out l.length (l.map u8v) _ rfl HR.out (by unfold maxLen; omega) (by omega) HG.out.size ?_; intro o w1 hown hgr; have HO1 := Lib.hid hown; have HG1 := Lib.hid (grown_all HO.out HG.out hgr); clear hown hgr))
    go_ret
    refine ⟨o, rfl, ?_, HG1.out⟩
    have h := HO1.out
    rw [Nat.zero_add, List.nil_append] at h
    exact h
end Go.Proofs.Ytdiciboaehdckaa
