/-
  Layer 7: rows held against each other.
-/
import Derived.Test.YtdiciboaehdckaaV2
namespace Go.Proofs.Ytdiciboaehdckaa
open Go.RowKit Go.Tab

/-- A slice that reads as these numbers of some kind. -/
def NumsAt (k : IntKind) (w : World) (v : Value) (l : List Nat) : Prop :=
  l.length ≤ 17592186044416 ∧ (((∃ a cap, v = .slice a 0 cap ∧ (a = none → cap = 0)) ∧ l = []) ∨ ∃ b off cap, v = .slice (some ⟨b, off, none⟩) l.length cap ∧ b < w.heap.size ∧ l.length ≤ cap ∧
    ∀ i, i < l.length → w.cell? ⟨b, off + i, none⟩ = some (.int k (l.getD i 0)))
theorem NumsAt.grows {k : IntKind} {w w' : World} {v : Value} {l : List Nat} (h : NumsAt k w v l) (hg : Grows w w') : NumsAt k w' v l := by
  obtain ⟨hl, h | ⟨b, off, cap, hv, hb, hcp, hc⟩⟩ := h
  · exact ⟨hl, .inl h⟩
  · refine ⟨hl, .inr ⟨b, off, cap, hv, Nat.lt_of_lt_of_le hb hg.size, hcp, fun i hi => ?_⟩⟩
    rw [Below.cell hg (p := ⟨b, off + i, none⟩) hb]
    exact hc i hi
theorem NumsAt.at_ {k : IntKind} {w : World} {a : Option Addr} {n cap i : Nat} {l : List Nat} (h : NumsAt k w (.slice a n cap) l) (hi : i < l.length) :
    ∃ b off, a = some ⟨b, off, none⟩ ∧ b < w.heap.size ∧ w.cell? ⟨b, off + i, none⟩ = some (.int k (l.getD i 0)) := by
  obtain ⟨_, ⟨_, rfl⟩ | ⟨b, off, cap', hv, hb, _, hc⟩⟩ := h
  · cases hi
  · cases hv; exact ⟨b, off, rfl, hb, hc i hi⟩
theorem NumsAt.shape {k : IntKind} {w : World} {v : Value} {l : List Nat} (h : NumsAt k w v l) : ∃ a cap, v = .slice a l.length cap := by
  obtain ⟨_, ⟨⟨_, _, h, _⟩, rfl⟩ | ⟨b, off, cap, hv, _⟩⟩ := h
  · exact ⟨_, _, h⟩
  · exact ⟨_, _, hv⟩

/-- A row of the call's own reads so. -/
theorem ownsRow_nums {k : IntKind} {w : World} {base : Nat} {E : TypeId} {v : Value} {l : List Nat} (h : w.ownsRow base E 1 v l.length (l.map fun x : Nat => .int k (x : Int))) (hl : l.length ≤ 17592186044416) : NumsAt k w v l := by
  obtain ⟨_, ⟨h1, h2⟩ | ⟨g, cap, cur, hv, hg, hh, hc, hm, hs, ht⟩⟩ := h
  · exact ⟨hl, .inl ⟨⟨_, _, h1, fun _ => rfl⟩, by simpa using h2⟩⟩
  · refine ⟨hl, .inr ⟨g, 0, cap, hv, (Array.getElem?_eq_some_iff.1 hh).1, hc, fun i hi => ?_⟩⟩
    have h1 : cur.toList[i]? = (l.map fun x : Nat => Value.int k (x : Int))[i]? := by
      rw [← ht, List.getElem?_take_of_lt (by omega)]
    have hi2 : i < cur.size := by rw [hs, Nat.mul_one]; omega
    simp only [World.cell?, hh, Nat.zero_add]
    rw [List.getElem?_map, List.getElem?_eq_getElem hi] at h1
    simp at h1
    simp [hi, h1]

theorem take_eq_succ {a b : List Nat} {k : Nat} (ha : k < a.length) (hb : k < b.length) : a.take (k + 1) = b.take (k + 1) ↔ a.take k = b.take k ∧ a.getD k 0 = b.getD k 0 := by
  rw [List.take_succ_eq_append_getElem ha, List.take_succ_eq_append_getElem hb]
  have h1 : a.getD k 0 = a[k] := by rw [List.getD_eq_getElem?_getD, List.getElem?_eq_getElem ha]; rfl
  have h2 : b.getD k 0 = b[k] := by rw [List.getD_eq_getElem?_getD, List.getElem?_eq_getElem hb]; rfl
  rw [h1, h2]
  constructor
  · intro h
    have := List.append_inj' h rfl
    exact ⟨this.1, by simpa using this.2⟩
  · rintro ⟨h, h'⟩; rw [h, h']

set_option maxRecDepth 100000 in
set_option maxHeartbeats 800000 in
theorem Same_any (v u : Value) (a b : List Nat) (w : World) (hv : NumsAt .u8 w v a) (hu : NumsAt .u8 w u b) :
    Calls Try.prog 11 #[v, u] w (Ret (.bool (decide (a = b))) w) := by
  by_cases hl : a.length = b.length
  · obtain ⟨hal, ⟨⟨_, _, rfl, _⟩, rfl⟩ | ⟨ba, oa, ca, rfl, hba, _, hca⟩⟩ := hv
    · obtain ⟨au, cu, rfl⟩ := hu.shape
      obtain rfl : b = [] := by simpa using hl.symm
      clear hu
      go_enter Try.func11, Try.ntmps11
      go_wp2
      refine wp_loop_rounds 1 ?_; rw [rounds_succ]
      go_wp2
      go_ret
      exact ⟨rfl, Grows.refl _⟩
    · obtain ⟨_, ⟨⟨_, _, rfl, _⟩, rfl⟩ | ⟨bb, ob, cb, rfl, hbb, _, hcb⟩⟩ := hu
      · obtain rfl : a = [] := by simpa using hl
        clear hca
        go_enter Try.func11, Try.ntmps11
        go_wp2
        refine wp_loop_rounds 1 ?_; rw [rounds_succ]
        go_wp2
        go_ret
        exact ⟨rfl, Grows.refl _⟩
      · have hcb' : ∀ i, i < a.length → w.cell? ⟨bb, ob + i, none⟩ = some (.int .u8 (b.getD i 0)) := fun i hi => hcb i (by rw [← hl]; exact hi)
        clear hcb
        rw [← hl]
        generalize hn : a.length = n at *
        have Hn := Lib.hid hn
        have Hl := Lib.hid hl
        clear hn hl
        go_enter Try.func11, Try.ntmps11
        go_wp2
        go_loopw [5] (fun i wr => ∃ k : Nat, k ≤ n ∧ i = .int .i64 k ∧ a.take k = b.take k ∧ ∃ m, wr = w.drewN m) (fun i _ => n - (intOf i).toNat)
        case atStart => exact ⟨0, Nat.zero_le _, rfl, rfl, 0, rfl⟩
        case round =>
          obtain ⟨k, hk, rfl, he, m, rfl⟩ := hrel
          have He := Lib.hid he
          clear he
          by_cases hlt : k < n
          · have e1 := hca k hlt
            have e2 := hcb' k hlt
            have Ht := Lib.hid (take_eq_succ (a := a) (b := b) (k := k) (by rw [Hn.out]; exact hlt) (by rw [← Hl.out]; exact hlt))
            have Hx := Lib.hid (show a = b → a.getD k 0 = b.getD k 0 from fun h => by rw [h])
            generalize a.getD k 0 = x at e1 Ht Hx
            generalize b.getD k 0 = y at e2 Ht Hx
            clear hca hcb'
            go_wp2
            go_quiet (fail)
            by_cases hxy : x = y
            · subst hxy
              go_wp2
              exact ⟨⟨k + 1, by omega, by go_num, Ht.out.2 ⟨He.out, rfl⟩, _, rfl⟩, by simp [intOf]; omega⟩
            · have hxy' : ((x : Int) != (y : Int)) = true := by rw [bne_iff_ne]; omega
              go_wp2
              go_ret
              exact ⟨ret_bool (decide_eq_false fun h => hxy (Hx.out h)).symm, ⟨rfl, rfl, rfl, Nat.le_refl _, fun _ _ => rfl⟩⟩
          · go_wp2
            go_ret
            obtain rfl : k = n := by omega
            have h1 := He.out
            rw [List.take_of_length_le (by rw [Hn.out]; exact Nat.le_refl _), List.take_of_length_le (by rw [← Hl.out]; exact Nat.le_refl _)] at h1
            exact ⟨ret_bool (decide_eq_true h1).symm, ⟨rfl, rfl, rfl, Nat.le_refl _, fun _ _ => rfl⟩⟩
  · obtain ⟨av, cv, rfl⟩ := hv.shape
    obtain ⟨au, cu, rfl⟩ := hu.shape
    have hne : ¬ a = b := fun h => hl (by rw [h])
    have hne' := decide_eq_false hne
    rw [hne']
    clear hv hu hne hne'
    generalize a.length = n at *
    generalize b.length = m at *
    go_enter Try.func11, Try.ntmps11
    go_wp2
    go_ret
    exact ⟨rfl, Grows.refl _⟩
end Go.Proofs.Ytdiciboaehdckaa
